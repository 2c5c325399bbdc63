/- FlowRefE: FlowRefE, FlowRefF, in one text. -/
import Derived.Test.YtcalinfdckklfaaGreatDoorPk33
namespace Go.Proofs.YtcalinfdckklfaaGreatDoor
open Go.RowKit
attribute [local go_sem] Ext.cell Ext.frozen

set_option maxRecDepth 1000000 in
set_option maxHeartbeats 16000000 in
theorem rr_bar11 (p pv pl : Option Addr) (c0 cv cl : Nat) (th : List Ins) (locs : Int) (vals : List Int) (lucks : List Bool) (w : World) (R : St) (k f : Nat → Value) (s : St) (r : Nat → Value) (n : Nat) (wr : World) (Q0 : Exit → Act → World → Prop) (E : REnv p pv pl c0 cv cl th locs vals lucks w) (H : RRel th locs vals lucks w R s r (n + 1) wr) (hlt : s.next < th.length) (xd xa xb xl xi : Int) (hx : th[s.next] = ⟨11, xd, xa, xb, xl, xi⟩) (hpan : ∀ c a d v w, Q0 (.panic c) (Act.put a d v) w → Q0 (.panic c) a w) :
    Code.wp Tryz.prog rbody (Exit.then (fun a' w'' => RWI p pv pl c0 cv cl th locs vals lucks w R k a' w'' ∧ rmu th a' w'' < rmu th ⟨rfrm p pv pl c0 cv cl th locs vals lucks w k f s, []⟩ wr) Q0) ⟨rfrm p pv pl c0 cv cl th locs vals lucks w k f s, []⟩ wr := by
  have hst : s.inc.step locs vals lucks ⟨11, xd, xa, xb, xl, xi⟩ = (s.inc.add (brEv (3 + xi)) 0 0 (-1)) := by unfold St.step; rw [if_neg (by simp), if_neg (by simp), if_neg (by simp), if_pos (by simp)]
  have hdm : 11 = (12 : Int) ∨ (11 ≠ (12 : Int) ∧ 0 ≤ xi ∧ xi ≤ 2) := by
    right; have := (E.ok s.next _ (List.getElem?_eq_getElem hlt)).dmb (by rw [hx]); rw [hx] at this; exact ⟨by decide, this⟩
  have hFe := fun w => rfence_any 11 xd xa xb xl xi w hdm
  rw [if_neg (by decide)] at hFe
  have HFe : Hid _ := hFe
  have HST : Hid _ := hst
  clear hst hFe hdm
  have hlen := lens_of H.ok E.h8
  have hW := fun W (hT : TrN W r s) => with_first (brEv (3 + xi)) 0 0 s.ctrl (-1) r s W hT hlen.1 hlen.2.1 hlen.2.2.1 hlen.2.2.2.1 hlen.2.2.2.2
  have HW : Hid _ := hW
  clear hW hlen
  have HX : Hid _ := hx
  have hokx := E.ok s.next _ (List.getElem?_eq_getElem hlt)
  rw [hx] at hokx
  have hrun := H.run
  rw [run_step H.more hlt, hx] at hrun
  have HRun : Hid _ := hrun
  have HOk : Hid _ := hokx
  clear hrun hokx
  have hnx := H.ok.nx
  have h8 := E.h8
  have hev := H.ok.ev
  have hwr : wrap64 ((s.next : Int) + 1) = (s.next : Int) + 1 := wrap_is (by omega) (by omega)
  have hPl := fun w => rPlace_any s.v s.d 11 xd xa xb xl xi locs w E.l1 (by have := E.l3; omega)
  have hGet := fun n w => rGet_any s.v s.d n w
  have hSet := fun n y1 y2 w => rSet_any s.v s.d n y1 y2 w
  unfold fileV at hPl hGet hSet
  have HPl : Hid _ := hPl
  have HGet : Hid _ := hGet
  have HSet : Hid _ := hSet
  clear hPl hGet hSet
  have hne : ∀ w, Nonempty (Ext w) := ext_some
  have hne2 : Nonempty AnyW := anyW_some
  have hcells := (ins_at (E.ht.keep H.B)).2 s.next hlt
  rw [hx] at hcells
  obtain ⟨ub, uo, rfl, e0, e1, e2, e3, e4, e5⟩ := hcells
  clear hx
  have hub := cell_lt e0
  obtain ⟨⟨t0, t1, t2, t3⟩, t4, t5, t6, t7⟩ := H.kt.regs
  have lt0 := H.kt.lt
  have Ba := below_new wr (.cells #[.int .i64 11, .int .i64 xd, .int .i64 xa, .int .i64 xb, .int .i64 xl, .int .i64 xi] 72)
  have kIa : InsB (wr.alloc (.cells #[.int .i64 11, .int .i64 xd, .int .i64 xa, .int .i64 xb, .int .i64 xl, .int .i64 xi] 72)) wr.heap.size 11 xd xa xb xl xi := Blk.new
  have FA := trivial
  have FB := trivial
  conv => arg 2; whnf
  unfold rfrm
  go_wp2_with (first
    | (go_at_call 106; clear FA; refine (HPl.out _).mono ?_; rintro e w1 ⟨rfl, hb1⟩; have B1 : Below wr.heap.size wr w1 := Below.thru Ba hb1 (Nat.le_refl _); have kI1 := kIa.keep hb1; have kt1 := H.kt.keep B1; obtain ⟨⟨a0, a1, a2, a3⟩, a4, a5, a6, a7⟩ := kt1.regs; obtain ⟨b0, b1, b2, b3, b4, b5⟩ := kI1.cells; have lt1 := kt1.lt; have lI1 := kI1.lt)
    | (go_at_call 107; clear FB; refine (HGet.out _ _).mono ?_; rintro e w2 ⟨rfl, hb2⟩; have B2 : Below wr.heap.size wr w2 := Below.thru B1 hb2 (Nat.le_refl _); have kI2 := kI1.keep hb2; have kt2 := H.kt.keep B2; have kz2 := H.kz.keep B2; have tr2 := H.tr.keep B2; obtain ⟨⟨i0, i1, i2, i3⟩, i4, i5, i6, i7⟩ := kt2.regs; obtain ⟨m0, m1, m2⟩ := kt2.more; obtain ⟨o0, o1, o2, o3, o4⟩ := kt2.rows; obtain ⟨j0, j1, j2, j3, j4, j5⟩ := kI2.cells; have lt2 := kt2.lt; have lI2 := kI2.lt; have lz2 := kz2.lt; have FC := trivial))
  refine wp_region_mixL [([0, 1, 4], 2, false), ([3], 5, false), ([], 6, true)] [] [6] (by kernel_rfl) (by kernel_rfl) (fun _ _ d _ _ h => hpan _ _ d _ _ h) ?_
  dsimp only [mapL, List.map, opAt]
  refine wpMixL_stage ?_
  repeat (go_big_quiet_step (fail))
  refine wpQuiet_nil ?_
  go_wp2_with (go_at_call 112; refine (HFe.out _).mono ?_; rintro e w3 ⟨rfl, hb3⟩)
  have B23 : Below w2.heap.size w2 w3 := Below.thru (Below.drew (Below.refl _ _)) hb3 (Nat.le_refl _)
  refine ⟨.inr B23, ?_⟩
  refine wpMixL_stage ?_
  repeat (go_big_quiet_step (fail))
  refine wpQuiet_nil ?_
  go_wp2_with (go_at_call 109; refine (HW.out _ (tr2.keep B23).n).mono ?_; rintro e w4 ⟨r3, rfl, tr4, hb4⟩)
  have B24 : Below w2.heap.size w2 w4 := Below.thru B23 hb4 (Nat.le_refl _)
  refine ⟨.inr B24, ?_⟩
  refine wpMixL_stage ?_
  refine wpQuiet_nil ?_
  refine wpList_storeB (by rfl) 34 (.tmp 9) (.tmp 210) (by rfl) (w.heap.size + 1) (trC r3 (s.addC (brEv (3 + xi)) 0 0 s.ctrl (-1))) _ 34 (by rfl) (by rfl) (kt2.keep B24) (by kernel_rfl) (by rfl) (one16A tr4) ?_
  intro w5 kt5 o5 z5
  simp only [Act.put]
  go_wp2
  refine ⟨.inl trivial, ?_⟩
  refine wpMixL_last ?_
  refine wpQuiet_nil ?_
  go_wp2
  have hst := HST.out
  have b23 := B23.size
  have tr5 := (tr4.mono (B := Aside2 w.heap.size) (fun b hb => ⟨by omega, by omega⟩)).only o5 (fun b hb e => hb.2.1 e)
  have B5 : Below w.heap.size w w5 := (Below.thru (Below.thru H.B B2 (Nat.le_refl _)) B24 (Nat.le_refl _)).trans (o5.below (Nat.le_trans (Nat.le_trans H.B.size B2.size) B24.size) (fun k hk => by omega))
  refine ⟨rwi_of (s.inc.add (brEv (3 + xi)) 0 0 (-1)) r3 n (rrel_step E H hlt HX.out hst kt5 (Blk.only (kz2.keep B24) o5 (by omega)) (tr5.st rfl rfl rfl rfl rfl) H.more H.dep B5) (by rfl), ?_⟩
  simp [rmu, intOf]
  omega
set_option maxRecDepth 1000000 in
set_option maxHeartbeats 16000000 in
theorem rr_bar12 (p pv pl : Option Addr) (c0 cv cl : Nat) (th : List Ins) (locs : Int) (vals : List Int) (lucks : List Bool) (w : World) (R : St) (k f : Nat → Value) (s : St) (r : Nat → Value) (n : Nat) (wr : World) (Q0 : Exit → Act → World → Prop) (E : REnv p pv pl c0 cv cl th locs vals lucks w) (H : RRel th locs vals lucks w R s r (n + 1) wr) (hlt : s.next < th.length) (xd xa xb xl xi : Int) (hx : th[s.next] = ⟨12, xd, xa, xb, xl, xi⟩) (hpan : ∀ c a d v w, Q0 (.panic c) (Act.put a d v) w → Q0 (.panic c) a w) :
    Code.wp Tryz.prog rbody (Exit.then (fun a' w'' => RWI p pv pl c0 cv cl th locs vals lucks w R k a' w'' ∧ rmu th a' w'' < rmu th ⟨rfrm p pv pl c0 cv cl th locs vals lucks w k f s, []⟩ wr) Q0) ⟨rfrm p pv pl c0 cv cl th locs vals lucks w k f s, []⟩ wr := by
  have hst : s.inc.step locs vals lucks ⟨12, xd, xa, xb, xl, xi⟩ = (s.inc.add (brEv (6)) 0 0 (-1)) := by unfold St.step; rw [if_neg (by simp), if_neg (by simp), if_neg (by simp), if_neg (by simp), if_pos (by simp)]
  have hdm : 12 = (12 : Int) ∨ (12 ≠ (12 : Int) ∧ 0 ≤ xi ∧ xi ≤ 2) := by
    left; rfl
  have hFe := fun w => rfence_any 12 xd xa xb xl xi w hdm
  rw [if_pos rfl] at hFe
  have HFe : Hid _ := hFe
  have HST : Hid _ := hst
  clear hst hFe hdm
  have hlen := lens_of H.ok E.h8
  have hW := fun W (hT : TrN W r s) => with_first (brEv (6)) 0 0 s.ctrl (-1) r s W hT hlen.1 hlen.2.1 hlen.2.2.1 hlen.2.2.2.1 hlen.2.2.2.2
  have HW : Hid _ := hW
  clear hW hlen
  have HX : Hid _ := hx
  have hokx := E.ok s.next _ (List.getElem?_eq_getElem hlt)
  rw [hx] at hokx
  have hrun := H.run
  rw [run_step H.more hlt, hx] at hrun
  have HRun : Hid _ := hrun
  have HOk : Hid _ := hokx
  clear hrun hokx
  have hnx := H.ok.nx
  have h8 := E.h8
  have hev := H.ok.ev
  have hwr : wrap64 ((s.next : Int) + 1) = (s.next : Int) + 1 := wrap_is (by omega) (by omega)
  have hPl := fun w => rPlace_any s.v s.d 12 xd xa xb xl xi locs w E.l1 (by have := E.l3; omega)
  have hGet := fun n w => rGet_any s.v s.d n w
  have hSet := fun n y1 y2 w => rSet_any s.v s.d n y1 y2 w
  unfold fileV at hPl hGet hSet
  have HPl : Hid _ := hPl
  have HGet : Hid _ := hGet
  have HSet : Hid _ := hSet
  clear hPl hGet hSet
  have hne : ∀ w, Nonempty (Ext w) := ext_some
  have hne2 : Nonempty AnyW := anyW_some
  have hcells := (ins_at (E.ht.keep H.B)).2 s.next hlt
  rw [hx] at hcells
  obtain ⟨ub, uo, rfl, e0, e1, e2, e3, e4, e5⟩ := hcells
  clear hx
  have hub := cell_lt e0
  obtain ⟨⟨t0, t1, t2, t3⟩, t4, t5, t6, t7⟩ := H.kt.regs
  have lt0 := H.kt.lt
  have Ba := below_new wr (.cells #[.int .i64 12, .int .i64 xd, .int .i64 xa, .int .i64 xb, .int .i64 xl, .int .i64 xi] 72)
  have kIa : InsB (wr.alloc (.cells #[.int .i64 12, .int .i64 xd, .int .i64 xa, .int .i64 xb, .int .i64 xl, .int .i64 xi] 72)) wr.heap.size 12 xd xa xb xl xi := Blk.new
  have FA := trivial
  have FB := trivial
  conv => arg 2; whnf
  unfold rfrm
  go_wp2_with (first
    | (go_at_call 106; clear FA; refine (HPl.out _).mono ?_; rintro e w1 ⟨rfl, hb1⟩; have B1 : Below wr.heap.size wr w1 := Below.thru Ba hb1 (Nat.le_refl _); have kI1 := kIa.keep hb1; have kt1 := H.kt.keep B1; obtain ⟨⟨a0, a1, a2, a3⟩, a4, a5, a6, a7⟩ := kt1.regs; obtain ⟨b0, b1, b2, b3, b4, b5⟩ := kI1.cells; have lt1 := kt1.lt; have lI1 := kI1.lt)
    | (go_at_call 107; clear FB; refine (HGet.out _ _).mono ?_; rintro e w2 ⟨rfl, hb2⟩; have B2 : Below wr.heap.size wr w2 := Below.thru B1 hb2 (Nat.le_refl _); have kI2 := kI1.keep hb2; have kt2 := H.kt.keep B2; have kz2 := H.kz.keep B2; have tr2 := H.tr.keep B2; obtain ⟨⟨i0, i1, i2, i3⟩, i4, i5, i6, i7⟩ := kt2.regs; obtain ⟨m0, m1, m2⟩ := kt2.more; obtain ⟨o0, o1, o2, o3, o4⟩ := kt2.rows; obtain ⟨j0, j1, j2, j3, j4, j5⟩ := kI2.cells; have lt2 := kt2.lt; have lI2 := kI2.lt; have lz2 := kz2.lt; have FC := trivial))
  refine wp_region_mixL [([0, 1, 4], 2, false), ([3], 5, false), ([], 6, true)] [] [6] (by kernel_rfl) (by kernel_rfl) (fun _ _ d _ _ h => hpan _ _ d _ _ h) ?_
  dsimp only [mapL, List.map, opAt]
  refine wpMixL_stage ?_
  repeat (go_big_quiet_step (fail))
  refine wpQuiet_nil ?_
  go_wp2_with (go_at_call 112; refine (HFe.out _).mono ?_; rintro e w3 ⟨rfl, hb3⟩)
  have B23 : Below w2.heap.size w2 w3 := Below.thru (Below.drew (Below.refl _ _)) hb3 (Nat.le_refl _)
  refine ⟨.inr B23, ?_⟩
  refine wpMixL_stage ?_
  repeat (go_big_quiet_step (fail))
  refine wpQuiet_nil ?_
  go_wp2_with (go_at_call 109; refine (HW.out _ (tr2.keep B23).n).mono ?_; rintro e w4 ⟨r3, rfl, tr4, hb4⟩)
  have B24 : Below w2.heap.size w2 w4 := Below.thru B23 hb4 (Nat.le_refl _)
  refine ⟨.inr B24, ?_⟩
  refine wpMixL_stage ?_
  refine wpQuiet_nil ?_
  refine wpList_storeB (by rfl) 34 (.tmp 9) (.tmp 210) (by rfl) (w.heap.size + 1) (trC r3 (s.addC (brEv (6)) 0 0 s.ctrl (-1))) _ 34 (by rfl) (by rfl) (kt2.keep B24) (by kernel_rfl) (by rfl) (one16A tr4) ?_
  intro w5 kt5 o5 z5
  simp only [Act.put]
  go_wp2
  refine ⟨.inl trivial, ?_⟩
  refine wpMixL_last ?_
  refine wpQuiet_nil ?_
  go_wp2
  have hst := HST.out
  have b23 := B23.size
  have tr5 := (tr4.mono (B := Aside2 w.heap.size) (fun b hb => ⟨by omega, by omega⟩)).only o5 (fun b hb e => hb.2.1 e)
  have B5 : Below w.heap.size w w5 := (Below.thru (Below.thru H.B B2 (Nat.le_refl _)) B24 (Nat.le_refl _)).trans (o5.below (Nat.le_trans (Nat.le_trans H.B.size B2.size) B24.size) (fun k hk => by omega))
  refine ⟨rwi_of (s.inc.add (brEv (6)) 0 0 (-1)) r3 n (rrel_step E H hlt HX.out hst kt5 (Blk.only (kz2.keep B24) o5 (by omega)) (tr5.st rfl rfl rfl rfl rfl) H.more H.dep B5) (by rfl), ?_⟩
  simp [rmu, intOf]
  omega
end Go.Proofs.YtcalinfdckklfaaGreatDoor

namespace Go.Proofs.YtcalinfdckklfaaGreatDoor
open Go.RowKit
attribute [local go_sem] Ext.cell Ext.frozen

set_option maxRecDepth 1000000 in
set_option maxHeartbeats 16000000 in
theorem rr_br13z (p pv pl : Option Addr) (c0 cv cl : Nat) (th : List Ins) (locs : Int) (vals : List Int) (lucks : List Bool) (w : World) (R : St) (k f : Nat → Value) (s : St) (r : Nat → Value) (n : Nat) (wr : World) (Q0 : Exit → Act → World → Prop) (E : REnv p pv pl c0 cv cl th locs vals lucks w) (H : RRel th locs vals lucks w R s r (n + 1) wr) (hlt : s.next < th.length) (xd xa xb xl xi : Int) (hx : th[s.next] = ⟨13, xd, xa, xb, xl, xi⟩) (hz : (atR s.v xa == 0) = true) :
    Code.wp Tryz.prog rbody (Exit.then (fun a' w'' => RWI p pv pl c0 cv cl th locs vals lucks w R k a' w'' ∧ rmu th a' w'' < rmu th ⟨rfrm p pv pl c0 cv cl th locs vals lucks w k f s, []⟩ wr) Q0) ⟨rfrm p pv pl c0 cv cl th locs vals lucks w k f s, []⟩ wr := by
  have hbr := (E.ok s.next _ (List.getElem?_eq_getElem hlt)).br (by rw [hx]; simp)
  rw [hx] at hbr
  have hst : s.inc.step locs vals lucks ⟨13, xd, xa, xb, xl, xi⟩ = ({ s.inc with ctrl := bits .or .u32 s.ctrl (atR s.d xa), next := s.next + 1 + xi.toNat } : St) := by
    unfold St.step
    rw [if_neg (by simp), if_neg (by simp), if_neg (by simp), if_neg (by simp), if_neg (by simp), if_pos (by simp)]
    unfold St.branch
    rw [show (atR s.inc.v xa == 0) = true from hz]
    rfl
  have HST : Hid _ := hst
  clear hst
  have hnx' := H.ok.nx
  have h8' := E.h8
  have hi : 0 ≤ xi ∧ xi ≤ 8 := ⟨hbr.1, by have := hbr.2; simp only at this; omega⟩
  have hw2 : wrap64 ((s.next : Int) + 1 + xi) = (s.next : Int) + 1 + xi := wrap_is (by omega) (by omega)
  have hnn : (s.next : Int) + 1 + xi = ((s.next + 1 + xi.toNat : Nat) : Int) := by omega
  have HNN : Hid _ := hnn
  have hzn : (atR s.v xa != 0) = false := by simpa [bne] using hz
  clear hnn hbr
  have HX : Hid _ := hx
  have hokx := E.ok s.next _ (List.getElem?_eq_getElem hlt)
  rw [hx] at hokx
  have hrun := H.run
  rw [run_step H.more hlt, hx] at hrun
  have HRun : Hid _ := hrun
  have HOk : Hid _ := hokx
  clear hrun hokx
  have hnx := H.ok.nx
  have h8 := E.h8
  have hev := H.ok.ev
  have hwr : wrap64 ((s.next : Int) + 1) = (s.next : Int) + 1 := wrap_is (by omega) (by omega)
  have hPl := fun w => rPlace_any s.v s.d 13 xd xa xb xl xi locs w E.l1 (by have := E.l3; omega)
  have hGet := fun n w => rGet_any s.v s.d n w
  have hSet := fun n y1 y2 w => rSet_any s.v s.d n y1 y2 w
  unfold fileV at hPl hGet hSet
  have HPl : Hid _ := hPl
  have HGet : Hid _ := hGet
  have HSet : Hid _ := hSet
  clear hPl hGet hSet
  have hne : ∀ w, Nonempty (Ext w) := ext_some
  have hne2 : Nonempty AnyW := anyW_some
  have hcells := (ins_at (E.ht.keep H.B)).2 s.next hlt
  rw [hx] at hcells
  obtain ⟨ub, uo, rfl, e0, e1, e2, e3, e4, e5⟩ := hcells
  clear hx
  have hub := cell_lt e0
  obtain ⟨⟨t0, t1, t2, t3⟩, t4, t5, t6, t7⟩ := H.kt.regs
  have lt0 := H.kt.lt
  have Ba := below_new wr (.cells #[.int .i64 13, .int .i64 xd, .int .i64 xa, .int .i64 xb, .int .i64 xl, .int .i64 xi] 72)
  have kIa : InsB (wr.alloc (.cells #[.int .i64 13, .int .i64 xd, .int .i64 xa, .int .i64 xb, .int .i64 xl, .int .i64 xi] 72)) wr.heap.size 13 xd xa xb xl xi := Blk.new
  have FA := trivial
  have FB := trivial
  conv => arg 2; whnf
  unfold rfrm
  go_wp2_with (first
    | (go_at_call 106; clear FA; refine (HPl.out _).mono ?_; rintro e w1 ⟨rfl, hb1⟩; have B1 : Below wr.heap.size wr w1 := Below.thru Ba hb1 (Nat.le_refl _); have kI1 := kIa.keep hb1; have kt1 := H.kt.keep B1; obtain ⟨⟨a0, a1, a2, a3⟩, a4, a5, a6, a7⟩ := kt1.regs; obtain ⟨b0, b1, b2, b3, b4, b5⟩ := kI1.cells; have lt1 := kt1.lt; have lI1 := kI1.lt)
    | (go_at_call 107; clear FB; refine (HGet.out _ _).mono ?_; rintro e w2 ⟨rfl, hb2⟩; have B2 : Below wr.heap.size wr w2 := Below.thru B1 hb2 (Nat.le_refl _); have kI2 := kI1.keep hb2; have kt2 := H.kt.keep B2; have kz2 := H.kz.keep B2; have tr2 := H.tr.keep B2; obtain ⟨⟨i0, i1, i2, i3⟩, i4, i5, i6, i7⟩ := kt2.regs; obtain ⟨m0, m1, m2⟩ := kt2.more; obtain ⟨o0, o1, o2, o3, o4⟩ := kt2.rows; obtain ⟨j0, j1, j2, j3, j4, j5⟩ := kI2.cells; have lt2 := kt2.lt; have lI2 := kI2.lt; have lz2 := kz2.lt; have FC := trivial)
    | (go_at_call 107; clear FC; refine (HGet.out _ _).mono ?_; rintro e w3 ⟨rfl, hb3⟩; have B3 : Below wr.heap.size wr w3 := Below.thru B2 hb3 (Nat.le_refl _); have kI3 := kI2.keep hb3; obtain ⟨q0, q1, q2, q3, q4, q5⟩ := kI3.cells; have lI3 := kI3.lt))
  have hst := HST.out
  refine ⟨rwi_of ({ s.inc with ctrl := bits .or .u32 s.ctrl (atR s.d xa), next := s.next + 1 + xi.toNat } : St) r n (rrel_step E H hlt HX.out hst (H.kt.keep B3) (H.kz.keep B3) ((H.tr.keep B3).st rfl rfl rfl rfl rfl) H.more H.dep (Below.thru H.B B3 (Nat.le_refl _))) (by rw [HNN.out]; rfl), ?_⟩
  simp [rmu, intOf]
  omega
set_option maxRecDepth 1000000 in
set_option maxHeartbeats 16000000 in
theorem rr_br13n (p pv pl : Option Addr) (c0 cv cl : Nat) (th : List Ins) (locs : Int) (vals : List Int) (lucks : List Bool) (w : World) (R : St) (k f : Nat → Value) (s : St) (r : Nat → Value) (n : Nat) (wr : World) (Q0 : Exit → Act → World → Prop) (E : REnv p pv pl c0 cv cl th locs vals lucks w) (H : RRel th locs vals lucks w R s r (n + 1) wr) (hlt : s.next < th.length) (xd xa xb xl xi : Int) (hx : th[s.next] = ⟨13, xd, xa, xb, xl, xi⟩) (hz : (atR s.v xa == 0) = false) :
    Code.wp Tryz.prog rbody (Exit.then (fun a' w'' => RWI p pv pl c0 cv cl th locs vals lucks w R k a' w'' ∧ rmu th a' w'' < rmu th ⟨rfrm p pv pl c0 cv cl th locs vals lucks w k f s, []⟩ wr) Q0) ⟨rfrm p pv pl c0 cv cl th locs vals lucks w k f s, []⟩ wr := by
  have hbr := (E.ok s.next _ (List.getElem?_eq_getElem hlt)).br (by rw [hx]; simp)
  rw [hx] at hbr
  have hst : s.inc.step locs vals lucks ⟨13, xd, xa, xb, xl, xi⟩ = ({ s.inc with ctrl := bits .or .u32 s.ctrl (atR s.d xa), next := s.next + 1 } : St) := by
    unfold St.step
    rw [if_neg (by simp), if_neg (by simp), if_neg (by simp), if_neg (by simp), if_neg (by simp), if_pos (by simp)]
    unfold St.branch
    rw [show (atR s.inc.v xa == 0) = false from hz]
    rfl
  have HST : Hid _ := hst
  clear hst
  have hnx' := H.ok.nx
  have h8' := E.h8
  have hi : 0 ≤ xi ∧ xi ≤ 8 := ⟨hbr.1, by have := hbr.2; simp only at this; omega⟩
  have hw2 : wrap64 ((s.next : Int) + 1 + xi) = (s.next : Int) + 1 + xi := wrap_is (by omega) (by omega)
  have hnn : (s.next : Int) + 1 + xi = ((s.next + 1 + xi.toNat : Nat) : Int) := by omega
  have HNN : Hid _ := hnn
  have hzn : (atR s.v xa != 0) = true := by simpa [bne] using hz
  clear hnn hbr
  have HX : Hid _ := hx
  have hokx := E.ok s.next _ (List.getElem?_eq_getElem hlt)
  rw [hx] at hokx
  have hrun := H.run
  rw [run_step H.more hlt, hx] at hrun
  have HRun : Hid _ := hrun
  have HOk : Hid _ := hokx
  clear hrun hokx
  have hnx := H.ok.nx
  have h8 := E.h8
  have hev := H.ok.ev
  have hwr : wrap64 ((s.next : Int) + 1) = (s.next : Int) + 1 := wrap_is (by omega) (by omega)
  have hPl := fun w => rPlace_any s.v s.d 13 xd xa xb xl xi locs w E.l1 (by have := E.l3; omega)
  have hGet := fun n w => rGet_any s.v s.d n w
  have hSet := fun n y1 y2 w => rSet_any s.v s.d n y1 y2 w
  unfold fileV at hPl hGet hSet
  have HPl : Hid _ := hPl
  have HGet : Hid _ := hGet
  have HSet : Hid _ := hSet
  clear hPl hGet hSet
  have hne : ∀ w, Nonempty (Ext w) := ext_some
  have hne2 : Nonempty AnyW := anyW_some
  have hcells := (ins_at (E.ht.keep H.B)).2 s.next hlt
  rw [hx] at hcells
  obtain ⟨ub, uo, rfl, e0, e1, e2, e3, e4, e5⟩ := hcells
  clear hx
  have hub := cell_lt e0
  obtain ⟨⟨t0, t1, t2, t3⟩, t4, t5, t6, t7⟩ := H.kt.regs
  have lt0 := H.kt.lt
  have Ba := below_new wr (.cells #[.int .i64 13, .int .i64 xd, .int .i64 xa, .int .i64 xb, .int .i64 xl, .int .i64 xi] 72)
  have kIa : InsB (wr.alloc (.cells #[.int .i64 13, .int .i64 xd, .int .i64 xa, .int .i64 xb, .int .i64 xl, .int .i64 xi] 72)) wr.heap.size 13 xd xa xb xl xi := Blk.new
  have FA := trivial
  have FB := trivial
  conv => arg 2; whnf
  unfold rfrm
  go_wp2_with (first
    | (go_at_call 106; clear FA; refine (HPl.out _).mono ?_; rintro e w1 ⟨rfl, hb1⟩; have B1 : Below wr.heap.size wr w1 := Below.thru Ba hb1 (Nat.le_refl _); have kI1 := kIa.keep hb1; have kt1 := H.kt.keep B1; obtain ⟨⟨a0, a1, a2, a3⟩, a4, a5, a6, a7⟩ := kt1.regs; obtain ⟨b0, b1, b2, b3, b4, b5⟩ := kI1.cells; have lt1 := kt1.lt; have lI1 := kI1.lt)
    | (go_at_call 107; clear FB; refine (HGet.out _ _).mono ?_; rintro e w2 ⟨rfl, hb2⟩; have B2 : Below wr.heap.size wr w2 := Below.thru B1 hb2 (Nat.le_refl _); have kI2 := kI1.keep hb2; have kt2 := H.kt.keep B2; have kz2 := H.kz.keep B2; have tr2 := H.tr.keep B2; obtain ⟨⟨i0, i1, i2, i3⟩, i4, i5, i6, i7⟩ := kt2.regs; obtain ⟨m0, m1, m2⟩ := kt2.more; obtain ⟨o0, o1, o2, o3, o4⟩ := kt2.rows; obtain ⟨j0, j1, j2, j3, j4, j5⟩ := kI2.cells; have lt2 := kt2.lt; have lI2 := kI2.lt; have lz2 := kz2.lt; have FC := trivial)
    | (go_at_call 107; clear FC; refine (HGet.out _ _).mono ?_; rintro e w3 ⟨rfl, hb3⟩; have B3 : Below wr.heap.size wr w3 := Below.thru B2 hb3 (Nat.le_refl _); have kI3 := kI2.keep hb3; obtain ⟨q0, q1, q2, q3, q4, q5⟩ := kI3.cells; have lI3 := kI3.lt))
  have hst := HST.out
  refine ⟨rwi_of ({ s.inc with ctrl := bits .or .u32 s.ctrl (atR s.d xa), next := s.next + 1 } : St) r n (rrel_step E H hlt HX.out hst (H.kt.keep B3) (H.kz.keep B3) ((H.tr.keep B3).st rfl rfl rfl rfl rfl) H.more H.dep (Below.thru H.B B3 (Nat.le_refl _))) (by rfl), ?_⟩
  simp [rmu, intOf]
  omega
set_option maxRecDepth 1000000 in
set_option maxHeartbeats 16000000 in
theorem rr_br14z (p pv pl : Option Addr) (c0 cv cl : Nat) (th : List Ins) (locs : Int) (vals : List Int) (lucks : List Bool) (w : World) (R : St) (k f : Nat → Value) (s : St) (r : Nat → Value) (n : Nat) (wr : World) (Q0 : Exit → Act → World → Prop) (E : REnv p pv pl c0 cv cl th locs vals lucks w) (H : RRel th locs vals lucks w R s r (n + 1) wr) (hlt : s.next < th.length) (xd xa xb xl xi : Int) (hx : th[s.next] = ⟨14, xd, xa, xb, xl, xi⟩) (hz : (atR s.v xa == 0) = true) :
    Code.wp Tryz.prog rbody (Exit.then (fun a' w'' => RWI p pv pl c0 cv cl th locs vals lucks w R k a' w'' ∧ rmu th a' w'' < rmu th ⟨rfrm p pv pl c0 cv cl th locs vals lucks w k f s, []⟩ wr) Q0) ⟨rfrm p pv pl c0 cv cl th locs vals lucks w k f s, []⟩ wr := by
  have hbr := (E.ok s.next _ (List.getElem?_eq_getElem hlt)).br (by rw [hx]; simp)
  rw [hx] at hbr
  have hst : s.inc.step locs vals lucks ⟨14, xd, xa, xb, xl, xi⟩ = ({ s.inc with ctrl := bits .or .u32 s.ctrl (atR s.d xa), next := s.next + 1 } : St) := by
    unfold St.step
    rw [if_neg (by simp), if_neg (by simp), if_neg (by simp), if_neg (by simp), if_neg (by simp), if_pos (by simp)]
    unfold St.branch
    rw [show (atR s.inc.v xa == 0) = true from hz]
    rfl
  have HST : Hid _ := hst
  clear hst
  have hnx' := H.ok.nx
  have h8' := E.h8
  have hi : 0 ≤ xi ∧ xi ≤ 8 := ⟨hbr.1, by have := hbr.2; simp only at this; omega⟩
  have hw2 : wrap64 ((s.next : Int) + 1 + xi) = (s.next : Int) + 1 + xi := wrap_is (by omega) (by omega)
  have hnn : (s.next : Int) + 1 + xi = ((s.next + 1 + xi.toNat : Nat) : Int) := by omega
  have HNN : Hid _ := hnn
  have hzn : (atR s.v xa != 0) = false := by simpa [bne] using hz
  clear hnn hbr
  have HX : Hid _ := hx
  have hokx := E.ok s.next _ (List.getElem?_eq_getElem hlt)
  rw [hx] at hokx
  have hrun := H.run
  rw [run_step H.more hlt, hx] at hrun
  have HRun : Hid _ := hrun
  have HOk : Hid _ := hokx
  clear hrun hokx
  have hnx := H.ok.nx
  have h8 := E.h8
  have hev := H.ok.ev
  have hwr : wrap64 ((s.next : Int) + 1) = (s.next : Int) + 1 := wrap_is (by omega) (by omega)
  have hPl := fun w => rPlace_any s.v s.d 14 xd xa xb xl xi locs w E.l1 (by have := E.l3; omega)
  have hGet := fun n w => rGet_any s.v s.d n w
  have hSet := fun n y1 y2 w => rSet_any s.v s.d n y1 y2 w
  unfold fileV at hPl hGet hSet
  have HPl : Hid _ := hPl
  have HGet : Hid _ := hGet
  have HSet : Hid _ := hSet
  clear hPl hGet hSet
  have hne : ∀ w, Nonempty (Ext w) := ext_some
  have hne2 : Nonempty AnyW := anyW_some
  have hcells := (ins_at (E.ht.keep H.B)).2 s.next hlt
  rw [hx] at hcells
  obtain ⟨ub, uo, rfl, e0, e1, e2, e3, e4, e5⟩ := hcells
  clear hx
  have hub := cell_lt e0
  obtain ⟨⟨t0, t1, t2, t3⟩, t4, t5, t6, t7⟩ := H.kt.regs
  have lt0 := H.kt.lt
  have Ba := below_new wr (.cells #[.int .i64 14, .int .i64 xd, .int .i64 xa, .int .i64 xb, .int .i64 xl, .int .i64 xi] 72)
  have kIa : InsB (wr.alloc (.cells #[.int .i64 14, .int .i64 xd, .int .i64 xa, .int .i64 xb, .int .i64 xl, .int .i64 xi] 72)) wr.heap.size 14 xd xa xb xl xi := Blk.new
  have FA := trivial
  have FB := trivial
  conv => arg 2; whnf
  unfold rfrm
  go_wp2_with (first
    | (go_at_call 106; clear FA; refine (HPl.out _).mono ?_; rintro e w1 ⟨rfl, hb1⟩; have B1 : Below wr.heap.size wr w1 := Below.thru Ba hb1 (Nat.le_refl _); have kI1 := kIa.keep hb1; have kt1 := H.kt.keep B1; obtain ⟨⟨a0, a1, a2, a3⟩, a4, a5, a6, a7⟩ := kt1.regs; obtain ⟨b0, b1, b2, b3, b4, b5⟩ := kI1.cells; have lt1 := kt1.lt; have lI1 := kI1.lt)
    | (go_at_call 107; clear FB; refine (HGet.out _ _).mono ?_; rintro e w2 ⟨rfl, hb2⟩; have B2 : Below wr.heap.size wr w2 := Below.thru B1 hb2 (Nat.le_refl _); have kI2 := kI1.keep hb2; have kt2 := H.kt.keep B2; have kz2 := H.kz.keep B2; have tr2 := H.tr.keep B2; obtain ⟨⟨i0, i1, i2, i3⟩, i4, i5, i6, i7⟩ := kt2.regs; obtain ⟨m0, m1, m2⟩ := kt2.more; obtain ⟨o0, o1, o2, o3, o4⟩ := kt2.rows; obtain ⟨j0, j1, j2, j3, j4, j5⟩ := kI2.cells; have lt2 := kt2.lt; have lI2 := kI2.lt; have lz2 := kz2.lt; have FC := trivial)
    | (go_at_call 107; clear FC; refine (HGet.out _ _).mono ?_; rintro e w3 ⟨rfl, hb3⟩; have B3 : Below wr.heap.size wr w3 := Below.thru B2 hb3 (Nat.le_refl _); have kI3 := kI2.keep hb3; obtain ⟨q0, q1, q2, q3, q4, q5⟩ := kI3.cells; have lI3 := kI3.lt))
  have hst := HST.out
  refine ⟨rwi_of ({ s.inc with ctrl := bits .or .u32 s.ctrl (atR s.d xa), next := s.next + 1 } : St) r n (rrel_step E H hlt HX.out hst (H.kt.keep B3) (H.kz.keep B3) ((H.tr.keep B3).st rfl rfl rfl rfl rfl) H.more H.dep (Below.thru H.B B3 (Nat.le_refl _))) (by rfl), ?_⟩
  simp [rmu, intOf]
  omega
set_option maxRecDepth 1000000 in
set_option maxHeartbeats 16000000 in
theorem rr_br14n (p pv pl : Option Addr) (c0 cv cl : Nat) (th : List Ins) (locs : Int) (vals : List Int) (lucks : List Bool) (w : World) (R : St) (k f : Nat → Value) (s : St) (r : Nat → Value) (n : Nat) (wr : World) (Q0 : Exit → Act → World → Prop) (E : REnv p pv pl c0 cv cl th locs vals lucks w) (H : RRel th locs vals lucks w R s r (n + 1) wr) (hlt : s.next < th.length) (xd xa xb xl xi : Int) (hx : th[s.next] = ⟨14, xd, xa, xb, xl, xi⟩) (hz : (atR s.v xa == 0) = false) :
    Code.wp Tryz.prog rbody (Exit.then (fun a' w'' => RWI p pv pl c0 cv cl th locs vals lucks w R k a' w'' ∧ rmu th a' w'' < rmu th ⟨rfrm p pv pl c0 cv cl th locs vals lucks w k f s, []⟩ wr) Q0) ⟨rfrm p pv pl c0 cv cl th locs vals lucks w k f s, []⟩ wr := by
  have hbr := (E.ok s.next _ (List.getElem?_eq_getElem hlt)).br (by rw [hx]; simp)
  rw [hx] at hbr
  have hst : s.inc.step locs vals lucks ⟨14, xd, xa, xb, xl, xi⟩ = ({ s.inc with ctrl := bits .or .u32 s.ctrl (atR s.d xa), next := s.next + 1 + xi.toNat } : St) := by
    unfold St.step
    rw [if_neg (by simp), if_neg (by simp), if_neg (by simp), if_neg (by simp), if_neg (by simp), if_pos (by simp)]
    unfold St.branch
    rw [show (atR s.inc.v xa == 0) = false from hz]
    rfl
  have HST : Hid _ := hst
  clear hst
  have hnx' := H.ok.nx
  have h8' := E.h8
  have hi : 0 ≤ xi ∧ xi ≤ 8 := ⟨hbr.1, by have := hbr.2; simp only at this; omega⟩
  have hw2 : wrap64 ((s.next : Int) + 1 + xi) = (s.next : Int) + 1 + xi := wrap_is (by omega) (by omega)
  have hnn : (s.next : Int) + 1 + xi = ((s.next + 1 + xi.toNat : Nat) : Int) := by omega
  have HNN : Hid _ := hnn
  have hzn : (atR s.v xa != 0) = true := by simpa [bne] using hz
  clear hnn hbr
  have HX : Hid _ := hx
  have hokx := E.ok s.next _ (List.getElem?_eq_getElem hlt)
  rw [hx] at hokx
  have hrun := H.run
  rw [run_step H.more hlt, hx] at hrun
  have HRun : Hid _ := hrun
  have HOk : Hid _ := hokx
  clear hrun hokx
  have hnx := H.ok.nx
  have h8 := E.h8
  have hev := H.ok.ev
  have hwr : wrap64 ((s.next : Int) + 1) = (s.next : Int) + 1 := wrap_is (by omega) (by omega)
  have hPl := fun w => rPlace_any s.v s.d 14 xd xa xb xl xi locs w E.l1 (by have := E.l3; omega)
  have hGet := fun n w => rGet_any s.v s.d n w
  have hSet := fun n y1 y2 w => rSet_any s.v s.d n y1 y2 w
  unfold fileV at hPl hGet hSet
  have HPl : Hid _ := hPl
  have HGet : Hid _ := hGet
  have HSet : Hid _ := hSet
  clear hPl hGet hSet
  have hne : ∀ w, Nonempty (Ext w) := ext_some
  have hne2 : Nonempty AnyW := anyW_some
  have hcells := (ins_at (E.ht.keep H.B)).2 s.next hlt
  rw [hx] at hcells
  obtain ⟨ub, uo, rfl, e0, e1, e2, e3, e4, e5⟩ := hcells
  clear hx
  have hub := cell_lt e0
  obtain ⟨⟨t0, t1, t2, t3⟩, t4, t5, t6, t7⟩ := H.kt.regs
  have lt0 := H.kt.lt
  have Ba := below_new wr (.cells #[.int .i64 14, .int .i64 xd, .int .i64 xa, .int .i64 xb, .int .i64 xl, .int .i64 xi] 72)
  have kIa : InsB (wr.alloc (.cells #[.int .i64 14, .int .i64 xd, .int .i64 xa, .int .i64 xb, .int .i64 xl, .int .i64 xi] 72)) wr.heap.size 14 xd xa xb xl xi := Blk.new
  have FA := trivial
  have FB := trivial
  conv => arg 2; whnf
  unfold rfrm
  go_wp2_with (first
    | (go_at_call 106; clear FA; refine (HPl.out _).mono ?_; rintro e w1 ⟨rfl, hb1⟩; have B1 : Below wr.heap.size wr w1 := Below.thru Ba hb1 (Nat.le_refl _); have kI1 := kIa.keep hb1; have kt1 := H.kt.keep B1; obtain ⟨⟨a0, a1, a2, a3⟩, a4, a5, a6, a7⟩ := kt1.regs; obtain ⟨b0, b1, b2, b3, b4, b5⟩ := kI1.cells; have lt1 := kt1.lt; have lI1 := kI1.lt)
    | (go_at_call 107; clear FB; refine (HGet.out _ _).mono ?_; rintro e w2 ⟨rfl, hb2⟩; have B2 : Below wr.heap.size wr w2 := Below.thru B1 hb2 (Nat.le_refl _); have kI2 := kI1.keep hb2; have kt2 := H.kt.keep B2; have kz2 := H.kz.keep B2; have tr2 := H.tr.keep B2; obtain ⟨⟨i0, i1, i2, i3⟩, i4, i5, i6, i7⟩ := kt2.regs; obtain ⟨m0, m1, m2⟩ := kt2.more; obtain ⟨o0, o1, o2, o3, o4⟩ := kt2.rows; obtain ⟨j0, j1, j2, j3, j4, j5⟩ := kI2.cells; have lt2 := kt2.lt; have lI2 := kI2.lt; have lz2 := kz2.lt; have FC := trivial)
    | (go_at_call 107; clear FC; refine (HGet.out _ _).mono ?_; rintro e w3 ⟨rfl, hb3⟩; have B3 : Below wr.heap.size wr w3 := Below.thru B2 hb3 (Nat.le_refl _); have kI3 := kI2.keep hb3; obtain ⟨q0, q1, q2, q3, q4, q5⟩ := kI3.cells; have lI3 := kI3.lt))
  have hst := HST.out
  refine ⟨rwi_of ({ s.inc with ctrl := bits .or .u32 s.ctrl (atR s.d xa), next := s.next + 1 + xi.toNat } : St) r n (rrel_step E H hlt HX.out hst (H.kt.keep B3) (H.kz.keep B3) ((H.tr.keep B3).st rfl rfl rfl rfl rfl) H.more H.dep (Below.thru H.B B3 (Nat.le_refl _))) (by rw [HNN.out]; rfl), ?_⟩
  simp [rmu, intOf]
  omega
end Go.Proofs.YtcalinfdckklfaaGreatDoor
