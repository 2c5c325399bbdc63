/- A round of the document's Run: a store. -/
import Derived.Test.YtkiefbldkidobaaDoorFlowRefDef
namespace Go.Proofs.YtkiefbldkidobaaDoor
open Go.RowKit
attribute [local go_sem] Ext.cell Ext.frozen

set_option maxRecDepth 1000000 in
set_option maxHeartbeats 16000000 in
theorem rr_store6 (p pv pl : Option Addr) (c0 cv cl : Nat) (th : List Ins) (locs : Int) (vals : List Int) (lucks : List Bool) (w : World) (R : St) (k f : Nat → Value) (s : St) (r : Nat → Value) (n : Nat) (wr : World) (Q0 : Exit → Act → World → Prop) (E : REnv p pv pl c0 cv cl th locs vals lucks w) (H : RRel th locs vals lucks w R s r (n + 1) wr) (hlt : s.next < th.length) (xd xa xb xl xi : Int) (hx : th[s.next] = ⟨6, xd, xa, xb, xl, xi⟩) :
    Code.wp Tryd.prog rbody (Exit.then (fun a' w'' => RWI p pv pl c0 cv cl th locs vals lucks w R k a' w'' ∧ rmu th a' w'' < rmu th ⟨rfrm p pv pl c0 cv cl th locs vals lucks w k f s, []⟩ wr) Q0) ⟨rfrm p pv pl c0 cv cl th locs vals lucks w k f s, []⟩ wr := by
  have hst : s.inc.step locs vals lucks ⟨6, xd, xa, xb, xl, xi⟩ = (s.inc.write locs ⟨6, xd, xa, xb, xl, xi⟩ (-1)) := by unfold St.step; rw [if_neg (by simp), if_pos (by simp)]
  have HST : Hid _ := hst
  clear hst
  have hlen := lens_of H.ok E.h8
  have hW := fun W (hT : TrN W r s) => with_first (wrEv locs ⟨6, xd, xa, xb, xl, xi⟩ s) (placeD s.d 6 xa locs) (atR s.d xb) s.ctrl (-1) r s W hT hlen.1 hlen.2.1 hlen.2.2.1 hlen.2.2.2.1 hlen.2.2.2.2
  have HW : Hid _ := hW
  clear hW hlen
  have HX : Hid _ := hx
  have hokx := E.ok s.next _ (List.getElem?_eq_getElem hlt)
  rw [hx] at hokx
  have hrun := H.run
  rw [run_step H.more hlt, hx] at hrun
  have HRun : Hid _ := hrun
  have HOk : Hid _ := hokx
  clear hrun hokx
  have hnx := H.ok.nx
  have h8 := E.h8
  have hev := H.ok.ev
  have hwr : wrap64 ((s.next : Int) + 1) = (s.next : Int) + 1 := wrap_is (by omega) (by omega)
  have hPl := fun w => rPlace_any s.v s.d 6 xd xa xb xl xi locs w E.l1 (by have := E.l3; omega)
  have hGet := fun n w => rGet_any s.v s.d n w
  have hSet := fun n y1 y2 w => rSet_any s.v s.d n y1 y2 w
  unfold fileV at hPl hGet hSet
  have HPl : Hid _ := hPl
  have HGet : Hid _ := hGet
  have HSet : Hid _ := hSet
  clear hPl hGet hSet
  have hne : ∀ w, Nonempty (Ext w) := ext_some
  have hne2 : Nonempty AnyW := anyW_some
  have hcells := (ins_at (E.ht.keep H.B)).2 s.next hlt
  rw [hx] at hcells
  obtain ⟨ub, uo, rfl, e0, e1, e2, e3, e4, e5⟩ := hcells
  clear hx
  have hub := cell_lt e0
  obtain ⟨⟨t0, t1, t2, t3⟩, t4, t5, t6, t7⟩ := H.kt.regs
  have lt0 := H.kt.lt
  have Ba := below_new wr (.cells #[.int .i64 6, .int .i64 xd, .int .i64 xa, .int .i64 xb, .int .i64 xl, .int .i64 xi] 51)
  have kIa : InsB (wr.alloc (.cells #[.int .i64 6, .int .i64 xd, .int .i64 xa, .int .i64 xb, .int .i64 xl, .int .i64 xi] 51)) wr.heap.size 6 xd xa xb xl xi := Blk.new
  have FA := trivial
  have FB := trivial
  conv => arg 2; whnf
  unfold rfrm
  go_wp2_with (first
    | (go_at_call 20; clear FA; refine (HPl.out _).mono ?_; rintro e w1 ⟨rfl, hb1⟩; have B1 : Below wr.heap.size wr w1 := Below.thru Ba hb1 (Nat.le_refl _); have kI1 := kIa.keep hb1; have kt1 := H.kt.keep B1; obtain ⟨⟨a0, a1, a2, a3⟩, a4, a5, a6, a7⟩ := kt1.regs; obtain ⟨b0, b1, b2, b3, b4, b5⟩ := kI1.cells; have lt1 := kt1.lt; have lI1 := kI1.lt)
    | (go_at_call 21; clear FB; refine (HGet.out _ _).mono ?_; rintro e w2 ⟨rfl, hb2⟩; have B2 : Below wr.heap.size wr w2 := Below.thru B1 hb2 (Nat.le_refl _); have kI2 := kI1.keep hb2; have kt2 := H.kt.keep B2; have kz2 := H.kz.keep B2; have tr2 := H.tr.keep B2; obtain ⟨⟨i0, i1, i2, i3⟩, i4, i5, i6, i7⟩ := kt2.regs; obtain ⟨m0, m1, m2⟩ := kt2.more; obtain ⟨o0, o1, o2, o3, o4⟩ := kt2.rows; obtain ⟨j0, j1, j2, j3, j4, j5⟩ := kI2.cells; have lt2 := kt2.lt; have lI2 := kI2.lt; have lz2 := kz2.lt; have FC := trivial)
    | (go_at_call 23; clear FC; refine (HW.out _ tr2.n).mono ?_; rintro e w3 ⟨r3, rfl, tr3, hb3⟩; have FD := trivial)
    | (clear FD; refine wpList_storeB (by rfl) 36 (.tmp 9) (.tmp 134) (by rfl) (w.heap.size + 1) (trC r3 _) _ 36 (by rfl) (by rfl) (kt2.keep hb3) (by kernel_rfl) (by rfl) (one16A tr3) ?_; intro w4 kt4 oL zL; simp only [Act.put]))
  have hst := HST.out
  have tr4 : TrA (Aside2 w.heap.size) w4 r3 (s.addC (wrEv locs ⟨6, xd, xa, xb, xl, xi⟩ s) (placeD s.d 6 xa locs) (atR s.d xb) s.ctrl (-1)) := (tr3.mono (fun b hb => ⟨by omega, by omega⟩)).only oL (fun b hb e => hb.2 e)
  have B4 : Below w.heap.size w w4 := (Below.thru (Below.thru H.B B2 (Nat.le_refl _)) hb3 (Nat.le_refl _)).trans (oL.below (Nat.le_trans (Nat.le_trans H.B.size B2.size) hb3.size) (fun k hk => by omega))
  refine ⟨rwi_of (s.inc.write locs ⟨6, xd, xa, xb, xl, xi⟩ (-1)) r3 n (rrel_step E H hlt HX.out hst kt4 (Blk.only (kz2.keep hb3) oL (by omega)) (tr4.st rfl rfl rfl rfl rfl) H.more H.dep B4) (by rfl), ?_⟩
  simp [rmu, intOf]
  omega
set_option maxRecDepth 1000000 in
set_option maxHeartbeats 16000000 in
theorem rr_store8 (p pv pl : Option Addr) (c0 cv cl : Nat) (th : List Ins) (locs : Int) (vals : List Int) (lucks : List Bool) (w : World) (R : St) (k f : Nat → Value) (s : St) (r : Nat → Value) (n : Nat) (wr : World) (Q0 : Exit → Act → World → Prop) (E : REnv p pv pl c0 cv cl th locs vals lucks w) (H : RRel th locs vals lucks w R s r (n + 1) wr) (hlt : s.next < th.length) (xd xa xb xl xi : Int) (hx : th[s.next] = ⟨8, xd, xa, xb, xl, xi⟩) :
    Code.wp Tryd.prog rbody (Exit.then (fun a' w'' => RWI p pv pl c0 cv cl th locs vals lucks w R k a' w'' ∧ rmu th a' w'' < rmu th ⟨rfrm p pv pl c0 cv cl th locs vals lucks w k f s, []⟩ wr) Q0) ⟨rfrm p pv pl c0 cv cl th locs vals lucks w k f s, []⟩ wr := by
  have hst : s.inc.step locs vals lucks ⟨8, xd, xa, xb, xl, xi⟩ = (s.inc.write locs ⟨8, xd, xa, xb, xl, xi⟩ (-1)) := by unfold St.step; rw [if_neg (by simp), if_pos (by simp)]
  have HST : Hid _ := hst
  clear hst
  have hlen := lens_of H.ok E.h8
  have hW := fun W (hT : TrN W r s) => with_first (wrEv locs ⟨8, xd, xa, xb, xl, xi⟩ s) (placeD s.d 8 xa locs) (atR s.d xb) s.ctrl (-1) r s W hT hlen.1 hlen.2.1 hlen.2.2.1 hlen.2.2.2.1 hlen.2.2.2.2
  have HW : Hid _ := hW
  clear hW hlen
  have HX : Hid _ := hx
  have hokx := E.ok s.next _ (List.getElem?_eq_getElem hlt)
  rw [hx] at hokx
  have hrun := H.run
  rw [run_step H.more hlt, hx] at hrun
  have HRun : Hid _ := hrun
  have HOk : Hid _ := hokx
  clear hrun hokx
  have hnx := H.ok.nx
  have h8 := E.h8
  have hev := H.ok.ev
  have hwr : wrap64 ((s.next : Int) + 1) = (s.next : Int) + 1 := wrap_is (by omega) (by omega)
  have hPl := fun w => rPlace_any s.v s.d 8 xd xa xb xl xi locs w E.l1 (by have := E.l3; omega)
  have hGet := fun n w => rGet_any s.v s.d n w
  have hSet := fun n y1 y2 w => rSet_any s.v s.d n y1 y2 w
  unfold fileV at hPl hGet hSet
  have HPl : Hid _ := hPl
  have HGet : Hid _ := hGet
  have HSet : Hid _ := hSet
  clear hPl hGet hSet
  have hne : ∀ w, Nonempty (Ext w) := ext_some
  have hne2 : Nonempty AnyW := anyW_some
  have hcells := (ins_at (E.ht.keep H.B)).2 s.next hlt
  rw [hx] at hcells
  obtain ⟨ub, uo, rfl, e0, e1, e2, e3, e4, e5⟩ := hcells
  clear hx
  have hub := cell_lt e0
  obtain ⟨⟨t0, t1, t2, t3⟩, t4, t5, t6, t7⟩ := H.kt.regs
  have lt0 := H.kt.lt
  have Ba := below_new wr (.cells #[.int .i64 8, .int .i64 xd, .int .i64 xa, .int .i64 xb, .int .i64 xl, .int .i64 xi] 51)
  have kIa : InsB (wr.alloc (.cells #[.int .i64 8, .int .i64 xd, .int .i64 xa, .int .i64 xb, .int .i64 xl, .int .i64 xi] 51)) wr.heap.size 8 xd xa xb xl xi := Blk.new
  have FA := trivial
  have FB := trivial
  conv => arg 2; whnf
  unfold rfrm
  go_wp2_with (first
    | (go_at_call 20; clear FA; refine (HPl.out _).mono ?_; rintro e w1 ⟨rfl, hb1⟩; have B1 : Below wr.heap.size wr w1 := Below.thru Ba hb1 (Nat.le_refl _); have kI1 := kIa.keep hb1; have kt1 := H.kt.keep B1; obtain ⟨⟨a0, a1, a2, a3⟩, a4, a5, a6, a7⟩ := kt1.regs; obtain ⟨b0, b1, b2, b3, b4, b5⟩ := kI1.cells; have lt1 := kt1.lt; have lI1 := kI1.lt)
    | (go_at_call 21; clear FB; refine (HGet.out _ _).mono ?_; rintro e w2 ⟨rfl, hb2⟩; have B2 : Below wr.heap.size wr w2 := Below.thru B1 hb2 (Nat.le_refl _); have kI2 := kI1.keep hb2; have kt2 := H.kt.keep B2; have kz2 := H.kz.keep B2; have tr2 := H.tr.keep B2; obtain ⟨⟨i0, i1, i2, i3⟩, i4, i5, i6, i7⟩ := kt2.regs; obtain ⟨m0, m1, m2⟩ := kt2.more; obtain ⟨o0, o1, o2, o3, o4⟩ := kt2.rows; obtain ⟨j0, j1, j2, j3, j4, j5⟩ := kI2.cells; have lt2 := kt2.lt; have lI2 := kI2.lt; have lz2 := kz2.lt; have FC := trivial)
    | (go_at_call 23; clear FC; refine (HW.out _ tr2.n).mono ?_; rintro e w3 ⟨r3, rfl, tr3, hb3⟩; have FD := trivial)
    | (clear FD; refine wpList_storeB (by rfl) 36 (.tmp 9) (.tmp 134) (by rfl) (w.heap.size + 1) (trC r3 _) _ 36 (by rfl) (by rfl) (kt2.keep hb3) (by kernel_rfl) (by rfl) (one16A tr3) ?_; intro w4 kt4 oL zL; simp only [Act.put]))
  have hst := HST.out
  have tr4 : TrA (Aside2 w.heap.size) w4 r3 (s.addC (wrEv locs ⟨8, xd, xa, xb, xl, xi⟩ s) (placeD s.d 8 xa locs) (atR s.d xb) s.ctrl (-1)) := (tr3.mono (fun b hb => ⟨by omega, by omega⟩)).only oL (fun b hb e => hb.2 e)
  have B4 : Below w.heap.size w w4 := (Below.thru (Below.thru H.B B2 (Nat.le_refl _)) hb3 (Nat.le_refl _)).trans (oL.below (Nat.le_trans (Nat.le_trans H.B.size B2.size) hb3.size) (fun k hk => by omega))
  refine ⟨rwi_of (s.inc.write locs ⟨8, xd, xa, xb, xl, xi⟩ (-1)) r3 n (rrel_step E H hlt HX.out hst kt4 (Blk.only (kz2.keep hb3) oL (by omega)) (tr4.st rfl rfl rfl rfl rfl) H.more H.dep B4) (by rfl), ?_⟩
  simp [rmu, intOf]
  omega
end Go.Proofs.YtkiefbldkidobaaDoor
