/- A round of the document's Run: a branch. -/
import Derived.Test.YtkiefbldkidobaaDoorFlowRefDef
namespace Go.Proofs.YtkiefbldkidobaaDoor
open Go.RowKit
attribute [local go_sem] Ext.cell Ext.frozen

set_option maxRecDepth 1000000 in
set_option maxHeartbeats 16000000 in
theorem rr_br13z (p pv pl : Option Addr) (c0 cv cl : Nat) (th : List Ins) (locs : Int) (vals : List Int) (lucks : List Bool) (w : World) (R : St) (k f : Nat → Value) (s : St) (r : Nat → Value) (n : Nat) (wr : World) (Q0 : Exit → Act → World → Prop) (E : REnv p pv pl c0 cv cl th locs vals lucks w) (H : RRel th locs vals lucks w R s r (n + 1) wr) (hlt : s.next < th.length) (xd xa xb xl xi : Int) (hx : th[s.next] = ⟨13, xd, xa, xb, xl, xi⟩) (hz : (atR s.v xa == 0) = true) :
    Code.wp Tryd.prog rbody (Exit.then (fun a' w'' => RWI p pv pl c0 cv cl th locs vals lucks w R k a' w'' ∧ rmu th a' w'' < rmu th ⟨rfrm p pv pl c0 cv cl th locs vals lucks w k f s, []⟩ wr) Q0) ⟨rfrm p pv pl c0 cv cl th locs vals lucks w k f s, []⟩ wr := by
  have hbr := (E.ok s.next _ (List.getElem?_eq_getElem hlt)).br (by rw [hx]; simp)
  rw [hx] at hbr
  have hst : s.inc.step locs vals lucks ⟨13, xd, xa, xb, xl, xi⟩ = ({ s.inc with ctrl := bits .or .u32 s.ctrl (atR s.d xa), next := s.next + 1 + xi.toNat } : St) := by
    unfold St.step
    rw [if_neg (by simp), if_neg (by simp), if_neg (by simp), if_neg (by simp), if_neg (by simp), if_pos (by simp)]
    unfold St.branch
    rw [show (atR s.inc.v xa == 0) = true from hz]
    rfl
  have HST : Hid _ := hst
  clear hst
  have hnx' := H.ok.nx
  have h8' := E.h8
  have hi : 0 ≤ xi ∧ xi ≤ 8 := ⟨hbr.1, by have := hbr.2; simp only at this; omega⟩
  have hw2 : wrap64 ((s.next : Int) + 1 + xi) = (s.next : Int) + 1 + xi := wrap_is (by omega) (by omega)
  have hnn : (s.next : Int) + 1 + xi = ((s.next + 1 + xi.toNat : Nat) : Int) := by omega
  have HNN : Hid _ := hnn
  have hzn : (atR s.v xa != 0) = false := by simpa [bne] using hz
  clear hnn hbr
  have HX : Hid _ := hx
  have hokx := E.ok s.next _ (List.getElem?_eq_getElem hlt)
  rw [hx] at hokx
  have hrun := H.run
  rw [run_step H.more hlt, hx] at hrun
  have HRun : Hid _ := hrun
  have HOk : Hid _ := hokx
  clear hrun hokx
  have hnx := H.ok.nx
  have h8 := E.h8
  have hev := H.ok.ev
  have hwr : wrap64 ((s.next : Int) + 1) = (s.next : Int) + 1 := wrap_is (by omega) (by omega)
  have hPl := fun w => rPlace_any s.v s.d 13 xd xa xb xl xi locs w E.l1 (by have := E.l3; omega)
  have hGet := fun n w => rGet_any s.v s.d n w
  have hSet := fun n y1 y2 w => rSet_any s.v s.d n y1 y2 w
  unfold fileV at hPl hGet hSet
  have HPl : Hid _ := hPl
  have HGet : Hid _ := hGet
  have HSet : Hid _ := hSet
  clear hPl hGet hSet
  have hne : ∀ w, Nonempty (Ext w) := ext_some
  have hne2 : Nonempty AnyW := anyW_some
  have hcells := (ins_at (E.ht.keep H.B)).2 s.next hlt
  rw [hx] at hcells
  obtain ⟨ub, uo, rfl, e0, e1, e2, e3, e4, e5⟩ := hcells
  clear hx
  have hub := cell_lt e0
  obtain ⟨⟨t0, t1, t2, t3⟩, t4, t5, t6, t7⟩ := H.kt.regs
  have lt0 := H.kt.lt
  have Ba := below_new wr (.cells #[.int .i64 13, .int .i64 xd, .int .i64 xa, .int .i64 xb, .int .i64 xl, .int .i64 xi] 51)
  have kIa : InsB (wr.alloc (.cells #[.int .i64 13, .int .i64 xd, .int .i64 xa, .int .i64 xb, .int .i64 xl, .int .i64 xi] 51)) wr.heap.size 13 xd xa xb xl xi := Blk.new
  have FA := trivial
  have FB := trivial
  conv => arg 2; whnf
  unfold rfrm
  go_wp2_with (first
    | (go_at_call 20; clear FA; refine (HPl.out _).mono ?_; rintro e w1 ⟨rfl, hb1⟩; have B1 : Below wr.heap.size wr w1 := Below.thru Ba hb1 (Nat.le_refl _); have kI1 := kIa.keep hb1; have kt1 := H.kt.keep B1; obtain ⟨⟨a0, a1, a2, a3⟩, a4, a5, a6, a7⟩ := kt1.regs; obtain ⟨b0, b1, b2, b3, b4, b5⟩ := kI1.cells; have lt1 := kt1.lt; have lI1 := kI1.lt)
    | (go_at_call 21; clear FB; refine (HGet.out _ _).mono ?_; rintro e w2 ⟨rfl, hb2⟩; have B2 : Below wr.heap.size wr w2 := Below.thru B1 hb2 (Nat.le_refl _); have kI2 := kI1.keep hb2; have kt2 := H.kt.keep B2; have kz2 := H.kz.keep B2; have tr2 := H.tr.keep B2; obtain ⟨⟨i0, i1, i2, i3⟩, i4, i5, i6, i7⟩ := kt2.regs; obtain ⟨m0, m1, m2⟩ := kt2.more; obtain ⟨o0, o1, o2, o3, o4⟩ := kt2.rows; obtain ⟨j0, j1, j2, j3, j4, j5⟩ := kI2.cells; have lt2 := kt2.lt; have lI2 := kI2.lt; have lz2 := kz2.lt; have FC := trivial)
    | (go_at_call 21; clear FC; refine (HGet.out _ _).mono ?_; rintro e w3 ⟨rfl, hb3⟩; have B3 : Below wr.heap.size wr w3 := Below.thru B2 hb3 (Nat.le_refl _); have kI3 := kI2.keep hb3; obtain ⟨q0, q1, q2, q3, q4, q5⟩ := kI3.cells; have lI3 := kI3.lt))
  have hst := HST.out
  refine ⟨rwi_of ({ s.inc with ctrl := bits .or .u32 s.ctrl (atR s.d xa), next := s.next + 1 + xi.toNat } : St) r n (rrel_step E H hlt HX.out hst (H.kt.keep B3) (H.kz.keep B3) ((H.tr.keep B3).st rfl rfl rfl rfl rfl) H.more H.dep (Below.thru H.B B3 (Nat.le_refl _))) (by rw [HNN.out]; rfl), ?_⟩
  simp [rmu, intOf]
  omega
set_option maxRecDepth 1000000 in
set_option maxHeartbeats 16000000 in
theorem rr_br13n (p pv pl : Option Addr) (c0 cv cl : Nat) (th : List Ins) (locs : Int) (vals : List Int) (lucks : List Bool) (w : World) (R : St) (k f : Nat → Value) (s : St) (r : Nat → Value) (n : Nat) (wr : World) (Q0 : Exit → Act → World → Prop) (E : REnv p pv pl c0 cv cl th locs vals lucks w) (H : RRel th locs vals lucks w R s r (n + 1) wr) (hlt : s.next < th.length) (xd xa xb xl xi : Int) (hx : th[s.next] = ⟨13, xd, xa, xb, xl, xi⟩) (hz : (atR s.v xa == 0) = false) :
    Code.wp Tryd.prog rbody (Exit.then (fun a' w'' => RWI p pv pl c0 cv cl th locs vals lucks w R k a' w'' ∧ rmu th a' w'' < rmu th ⟨rfrm p pv pl c0 cv cl th locs vals lucks w k f s, []⟩ wr) Q0) ⟨rfrm p pv pl c0 cv cl th locs vals lucks w k f s, []⟩ wr := by
  have hbr := (E.ok s.next _ (List.getElem?_eq_getElem hlt)).br (by rw [hx]; simp)
  rw [hx] at hbr
  have hst : s.inc.step locs vals lucks ⟨13, xd, xa, xb, xl, xi⟩ = ({ s.inc with ctrl := bits .or .u32 s.ctrl (atR s.d xa), next := s.next + 1 } : St) := by
    unfold St.step
    rw [if_neg (by simp), if_neg (by simp), if_neg (by simp), if_neg (by simp), if_neg (by simp), if_pos (by simp)]
    unfold St.branch
    rw [show (atR s.inc.v xa == 0) = false from hz]
    rfl
  have HST : Hid _ := hst
  clear hst
  have hnx' := H.ok.nx
  have h8' := E.h8
  have hi : 0 ≤ xi ∧ xi ≤ 8 := ⟨hbr.1, by have := hbr.2; simp only at this; omega⟩
  have hw2 : wrap64 ((s.next : Int) + 1 + xi) = (s.next : Int) + 1 + xi := wrap_is (by omega) (by omega)
  have hnn : (s.next : Int) + 1 + xi = ((s.next + 1 + xi.toNat : Nat) : Int) := by omega
  have HNN : Hid _ := hnn
  have hzn : (atR s.v xa != 0) = true := by simpa [bne] using hz
  clear hnn hbr
  have HX : Hid _ := hx
  have hokx := E.ok s.next _ (List.getElem?_eq_getElem hlt)
  rw [hx] at hokx
  have hrun := H.run
  rw [run_step H.more hlt, hx] at hrun
  have HRun : Hid _ := hrun
  have HOk : Hid _ := hokx
  clear hrun hokx
  have hnx := H.ok.nx
  have h8 := E.h8
  have hev := H.ok.ev
  have hwr : wrap64 ((s.next : Int) + 1) = (s.next : Int) + 1 := wrap_is (by omega) (by omega)
  have hPl := fun w => rPlace_any s.v s.d 13 xd xa xb xl xi locs w E.l1 (by have := E.l3; omega)
  have hGet := fun n w => rGet_any s.v s.d n w
  have hSet := fun n y1 y2 w => rSet_any s.v s.d n y1 y2 w
  unfold fileV at hPl hGet hSet
  have HPl : Hid _ := hPl
  have HGet : Hid _ := hGet
  have HSet : Hid _ := hSet
  clear hPl hGet hSet
  have hne : ∀ w, Nonempty (Ext w) := ext_some
  have hne2 : Nonempty AnyW := anyW_some
  have hcells := (ins_at (E.ht.keep H.B)).2 s.next hlt
  rw [hx] at hcells
  obtain ⟨ub, uo, rfl, e0, e1, e2, e3, e4, e5⟩ := hcells
  clear hx
  have hub := cell_lt e0
  obtain ⟨⟨t0, t1, t2, t3⟩, t4, t5, t6, t7⟩ := H.kt.regs
  have lt0 := H.kt.lt
  have Ba := below_new wr (.cells #[.int .i64 13, .int .i64 xd, .int .i64 xa, .int .i64 xb, .int .i64 xl, .int .i64 xi] 51)
  have kIa : InsB (wr.alloc (.cells #[.int .i64 13, .int .i64 xd, .int .i64 xa, .int .i64 xb, .int .i64 xl, .int .i64 xi] 51)) wr.heap.size 13 xd xa xb xl xi := Blk.new
  have FA := trivial
  have FB := trivial
  conv => arg 2; whnf
  unfold rfrm
  go_wp2_with (first
    | (go_at_call 20; clear FA; refine (HPl.out _).mono ?_; rintro e w1 ⟨rfl, hb1⟩; have B1 : Below wr.heap.size wr w1 := Below.thru Ba hb1 (Nat.le_refl _); have kI1 := kIa.keep hb1; have kt1 := H.kt.keep B1; obtain ⟨⟨a0, a1, a2, a3⟩, a4, a5, a6, a7⟩ := kt1.regs; obtain ⟨b0, b1, b2, b3, b4, b5⟩ := kI1.cells; have lt1 := kt1.lt; have lI1 := kI1.lt)
    | (go_at_call 21; clear FB; refine (HGet.out _ _).mono ?_; rintro e w2 ⟨rfl, hb2⟩; have B2 : Below wr.heap.size wr w2 := Below.thru B1 hb2 (Nat.le_refl _); have kI2 := kI1.keep hb2; have kt2 := H.kt.keep B2; have kz2 := H.kz.keep B2; have tr2 := H.tr.keep B2; obtain ⟨⟨i0, i1, i2, i3⟩, i4, i5, i6, i7⟩ := kt2.regs; obtain ⟨m0, m1, m2⟩ := kt2.more; obtain ⟨o0, o1, o2, o3, o4⟩ := kt2.rows; obtain ⟨j0, j1, j2, j3, j4, j5⟩ := kI2.cells; have lt2 := kt2.lt; have lI2 := kI2.lt; have lz2 := kz2.lt; have FC := trivial)
    | (go_at_call 21; clear FC; refine (HGet.out _ _).mono ?_; rintro e w3 ⟨rfl, hb3⟩; have B3 : Below wr.heap.size wr w3 := Below.thru B2 hb3 (Nat.le_refl _); have kI3 := kI2.keep hb3; obtain ⟨q0, q1, q2, q3, q4, q5⟩ := kI3.cells; have lI3 := kI3.lt))
  have hst := HST.out
  refine ⟨rwi_of ({ s.inc with ctrl := bits .or .u32 s.ctrl (atR s.d xa), next := s.next + 1 } : St) r n (rrel_step E H hlt HX.out hst (H.kt.keep B3) (H.kz.keep B3) ((H.tr.keep B3).st rfl rfl rfl rfl rfl) H.more H.dep (Below.thru H.B B3 (Nat.le_refl _))) (by rfl), ?_⟩
  simp [rmu, intOf]
  omega
set_option maxRecDepth 1000000 in
set_option maxHeartbeats 16000000 in
theorem rr_br14z (p pv pl : Option Addr) (c0 cv cl : Nat) (th : List Ins) (locs : Int) (vals : List Int) (lucks : List Bool) (w : World) (R : St) (k f : Nat → Value) (s : St) (r : Nat → Value) (n : Nat) (wr : World) (Q0 : Exit → Act → World → Prop) (E : REnv p pv pl c0 cv cl th locs vals lucks w) (H : RRel th locs vals lucks w R s r (n + 1) wr) (hlt : s.next < th.length) (xd xa xb xl xi : Int) (hx : th[s.next] = ⟨14, xd, xa, xb, xl, xi⟩) (hz : (atR s.v xa == 0) = true) :
    Code.wp Tryd.prog rbody (Exit.then (fun a' w'' => RWI p pv pl c0 cv cl th locs vals lucks w R k a' w'' ∧ rmu th a' w'' < rmu th ⟨rfrm p pv pl c0 cv cl th locs vals lucks w k f s, []⟩ wr) Q0) ⟨rfrm p pv pl c0 cv cl th locs vals lucks w k f s, []⟩ wr := by
  have hbr := (E.ok s.next _ (List.getElem?_eq_getElem hlt)).br (by rw [hx]; simp)
  rw [hx] at hbr
  have hst : s.inc.step locs vals lucks ⟨14, xd, xa, xb, xl, xi⟩ = ({ s.inc with ctrl := bits .or .u32 s.ctrl (atR s.d xa), next := s.next + 1 } : St) := by
    unfold St.step
    rw [if_neg (by simp), if_neg (by simp), if_neg (by simp), if_neg (by simp), if_neg (by simp), if_pos (by simp)]
    unfold St.branch
    rw [show (atR s.inc.v xa == 0) = true from hz]
    rfl
  have HST : Hid _ := hst
  clear hst
  have hnx' := H.ok.nx
  have h8' := E.h8
  have hi : 0 ≤ xi ∧ xi ≤ 8 := ⟨hbr.1, by have := hbr.2; simp only at this; omega⟩
  have hw2 : wrap64 ((s.next : Int) + 1 + xi) = (s.next : Int) + 1 + xi := wrap_is (by omega) (by omega)
  have hnn : (s.next : Int) + 1 + xi = ((s.next + 1 + xi.toNat : Nat) : Int) := by omega
  have HNN : Hid _ := hnn
  have hzn : (atR s.v xa != 0) = false := by simpa [bne] using hz
  clear hnn hbr
  have HX : Hid _ := hx
  have hokx := E.ok s.next _ (List.getElem?_eq_getElem hlt)
  rw [hx] at hokx
  have hrun := H.run
  rw [run_step H.more hlt, hx] at hrun
  have HRun : Hid _ := hrun
  have HOk : Hid _ := hokx
  clear hrun hokx
  have hnx := H.ok.nx
  have h8 := E.h8
  have hev := H.ok.ev
  have hwr : wrap64 ((s.next : Int) + 1) = (s.next : Int) + 1 := wrap_is (by omega) (by omega)
  have hPl := fun w => rPlace_any s.v s.d 14 xd xa xb xl xi locs w E.l1 (by have := E.l3; omega)
  have hGet := fun n w => rGet_any s.v s.d n w
  have hSet := fun n y1 y2 w => rSet_any s.v s.d n y1 y2 w
  unfold fileV at hPl hGet hSet
  have HPl : Hid _ := hPl
  have HGet : Hid _ := hGet
  have HSet : Hid _ := hSet
  clear hPl hGet hSet
  have hne : ∀ w, Nonempty (Ext w) := ext_some
  have hne2 : Nonempty AnyW := anyW_some
  have hcells := (ins_at (E.ht.keep H.B)).2 s.next hlt
  rw [hx] at hcells
  obtain ⟨ub, uo, rfl, e0, e1, e2, e3, e4, e5⟩ := hcells
  clear hx
  have hub := cell_lt e0
  obtain ⟨⟨t0, t1, t2, t3⟩, t4, t5, t6, t7⟩ := H.kt.regs
  have lt0 := H.kt.lt
  have Ba := below_new wr (.cells #[.int .i64 14, .int .i64 xd, .int .i64 xa, .int .i64 xb, .int .i64 xl, .int .i64 xi] 51)
  have kIa : InsB (wr.alloc (.cells #[.int .i64 14, .int .i64 xd, .int .i64 xa, .int .i64 xb, .int .i64 xl, .int .i64 xi] 51)) wr.heap.size 14 xd xa xb xl xi := Blk.new
  have FA := trivial
  have FB := trivial
  conv => arg 2; whnf
  unfold rfrm
  go_wp2_with (first
    | (go_at_call 20; clear FA; refine (HPl.out _).mono ?_; rintro e w1 ⟨rfl, hb1⟩; have B1 : Below wr.heap.size wr w1 := Below.thru Ba hb1 (Nat.le_refl _); have kI1 := kIa.keep hb1; have kt1 := H.kt.keep B1; obtain ⟨⟨a0, a1, a2, a3⟩, a4, a5, a6, a7⟩ := kt1.regs; obtain ⟨b0, b1, b2, b3, b4, b5⟩ := kI1.cells; have lt1 := kt1.lt; have lI1 := kI1.lt)
    | (go_at_call 21; clear FB; refine (HGet.out _ _).mono ?_; rintro e w2 ⟨rfl, hb2⟩; have B2 : Below wr.heap.size wr w2 := Below.thru B1 hb2 (Nat.le_refl _); have kI2 := kI1.keep hb2; have kt2 := H.kt.keep B2; have kz2 := H.kz.keep B2; have tr2 := H.tr.keep B2; obtain ⟨⟨i0, i1, i2, i3⟩, i4, i5, i6, i7⟩ := kt2.regs; obtain ⟨m0, m1, m2⟩ := kt2.more; obtain ⟨o0, o1, o2, o3, o4⟩ := kt2.rows; obtain ⟨j0, j1, j2, j3, j4, j5⟩ := kI2.cells; have lt2 := kt2.lt; have lI2 := kI2.lt; have lz2 := kz2.lt; have FC := trivial)
    | (go_at_call 21; clear FC; refine (HGet.out _ _).mono ?_; rintro e w3 ⟨rfl, hb3⟩; have B3 : Below wr.heap.size wr w3 := Below.thru B2 hb3 (Nat.le_refl _); have kI3 := kI2.keep hb3; obtain ⟨q0, q1, q2, q3, q4, q5⟩ := kI3.cells; have lI3 := kI3.lt))
  have hst := HST.out
  refine ⟨rwi_of ({ s.inc with ctrl := bits .or .u32 s.ctrl (atR s.d xa), next := s.next + 1 } : St) r n (rrel_step E H hlt HX.out hst (H.kt.keep B3) (H.kz.keep B3) ((H.tr.keep B3).st rfl rfl rfl rfl rfl) H.more H.dep (Below.thru H.B B3 (Nat.le_refl _))) (by rfl), ?_⟩
  simp [rmu, intOf]
  omega
set_option maxRecDepth 1000000 in
set_option maxHeartbeats 16000000 in
theorem rr_br14n (p pv pl : Option Addr) (c0 cv cl : Nat) (th : List Ins) (locs : Int) (vals : List Int) (lucks : List Bool) (w : World) (R : St) (k f : Nat → Value) (s : St) (r : Nat → Value) (n : Nat) (wr : World) (Q0 : Exit → Act → World → Prop) (E : REnv p pv pl c0 cv cl th locs vals lucks w) (H : RRel th locs vals lucks w R s r (n + 1) wr) (hlt : s.next < th.length) (xd xa xb xl xi : Int) (hx : th[s.next] = ⟨14, xd, xa, xb, xl, xi⟩) (hz : (atR s.v xa == 0) = false) :
    Code.wp Tryd.prog rbody (Exit.then (fun a' w'' => RWI p pv pl c0 cv cl th locs vals lucks w R k a' w'' ∧ rmu th a' w'' < rmu th ⟨rfrm p pv pl c0 cv cl th locs vals lucks w k f s, []⟩ wr) Q0) ⟨rfrm p pv pl c0 cv cl th locs vals lucks w k f s, []⟩ wr := by
  have hbr := (E.ok s.next _ (List.getElem?_eq_getElem hlt)).br (by rw [hx]; simp)
  rw [hx] at hbr
  have hst : s.inc.step locs vals lucks ⟨14, xd, xa, xb, xl, xi⟩ = ({ s.inc with ctrl := bits .or .u32 s.ctrl (atR s.d xa), next := s.next + 1 + xi.toNat } : St) := by
    unfold St.step
    rw [if_neg (by simp), if_neg (by simp), if_neg (by simp), if_neg (by simp), if_neg (by simp), if_pos (by simp)]
    unfold St.branch
    rw [show (atR s.inc.v xa == 0) = false from hz]
    rfl
  have HST : Hid _ := hst
  clear hst
  have hnx' := H.ok.nx
  have h8' := E.h8
  have hi : 0 ≤ xi ∧ xi ≤ 8 := ⟨hbr.1, by have := hbr.2; simp only at this; omega⟩
  have hw2 : wrap64 ((s.next : Int) + 1 + xi) = (s.next : Int) + 1 + xi := wrap_is (by omega) (by omega)
  have hnn : (s.next : Int) + 1 + xi = ((s.next + 1 + xi.toNat : Nat) : Int) := by omega
  have HNN : Hid _ := hnn
  have hzn : (atR s.v xa != 0) = true := by simpa [bne] using hz
  clear hnn hbr
  have HX : Hid _ := hx
  have hokx := E.ok s.next _ (List.getElem?_eq_getElem hlt)
  rw [hx] at hokx
  have hrun := H.run
  rw [run_step H.more hlt, hx] at hrun
  have HRun : Hid _ := hrun
  have HOk : Hid _ := hokx
  clear hrun hokx
  have hnx := H.ok.nx
  have h8 := E.h8
  have hev := H.ok.ev
  have hwr : wrap64 ((s.next : Int) + 1) = (s.next : Int) + 1 := wrap_is (by omega) (by omega)
  have hPl := fun w => rPlace_any s.v s.d 14 xd xa xb xl xi locs w E.l1 (by have := E.l3; omega)
  have hGet := fun n w => rGet_any s.v s.d n w
  have hSet := fun n y1 y2 w => rSet_any s.v s.d n y1 y2 w
  unfold fileV at hPl hGet hSet
  have HPl : Hid _ := hPl
  have HGet : Hid _ := hGet
  have HSet : Hid _ := hSet
  clear hPl hGet hSet
  have hne : ∀ w, Nonempty (Ext w) := ext_some
  have hne2 : Nonempty AnyW := anyW_some
  have hcells := (ins_at (E.ht.keep H.B)).2 s.next hlt
  rw [hx] at hcells
  obtain ⟨ub, uo, rfl, e0, e1, e2, e3, e4, e5⟩ := hcells
  clear hx
  have hub := cell_lt e0
  obtain ⟨⟨t0, t1, t2, t3⟩, t4, t5, t6, t7⟩ := H.kt.regs
  have lt0 := H.kt.lt
  have Ba := below_new wr (.cells #[.int .i64 14, .int .i64 xd, .int .i64 xa, .int .i64 xb, .int .i64 xl, .int .i64 xi] 51)
  have kIa : InsB (wr.alloc (.cells #[.int .i64 14, .int .i64 xd, .int .i64 xa, .int .i64 xb, .int .i64 xl, .int .i64 xi] 51)) wr.heap.size 14 xd xa xb xl xi := Blk.new
  have FA := trivial
  have FB := trivial
  conv => arg 2; whnf
  unfold rfrm
  go_wp2_with (first
    | (go_at_call 20; clear FA; refine (HPl.out _).mono ?_; rintro e w1 ⟨rfl, hb1⟩; have B1 : Below wr.heap.size wr w1 := Below.thru Ba hb1 (Nat.le_refl _); have kI1 := kIa.keep hb1; have kt1 := H.kt.keep B1; obtain ⟨⟨a0, a1, a2, a3⟩, a4, a5, a6, a7⟩ := kt1.regs; obtain ⟨b0, b1, b2, b3, b4, b5⟩ := kI1.cells; have lt1 := kt1.lt; have lI1 := kI1.lt)
    | (go_at_call 21; clear FB; refine (HGet.out _ _).mono ?_; rintro e w2 ⟨rfl, hb2⟩; have B2 : Below wr.heap.size wr w2 := Below.thru B1 hb2 (Nat.le_refl _); have kI2 := kI1.keep hb2; have kt2 := H.kt.keep B2; have kz2 := H.kz.keep B2; have tr2 := H.tr.keep B2; obtain ⟨⟨i0, i1, i2, i3⟩, i4, i5, i6, i7⟩ := kt2.regs; obtain ⟨m0, m1, m2⟩ := kt2.more; obtain ⟨o0, o1, o2, o3, o4⟩ := kt2.rows; obtain ⟨j0, j1, j2, j3, j4, j5⟩ := kI2.cells; have lt2 := kt2.lt; have lI2 := kI2.lt; have lz2 := kz2.lt; have FC := trivial)
    | (go_at_call 21; clear FC; refine (HGet.out _ _).mono ?_; rintro e w3 ⟨rfl, hb3⟩; have B3 : Below wr.heap.size wr w3 := Below.thru B2 hb3 (Nat.le_refl _); have kI3 := kI2.keep hb3; obtain ⟨q0, q1, q2, q3, q4, q5⟩ := kI3.cells; have lI3 := kI3.lt))
  have hst := HST.out
  refine ⟨rwi_of ({ s.inc with ctrl := bits .or .u32 s.ctrl (atR s.d xa), next := s.next + 1 + xi.toNat } : St) r n (rrel_step E H hlt HX.out hst (H.kt.keep B3) (H.kz.keep B3) ((H.tr.keep B3).st rfl rfl rfl rfl rfl) H.more H.dep (Below.thru H.B B3 (Nat.le_refl _))) (by rw [HNN.out]; rfl), ?_⟩
  simp [rmu, intOf]
  omega
end Go.Proofs.YtkiefbldkidobaaDoor
