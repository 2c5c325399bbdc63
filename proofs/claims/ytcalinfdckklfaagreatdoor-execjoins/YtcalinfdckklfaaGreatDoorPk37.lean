/- A round of the document's Run: a load that takes a value. -/
import Derived.Test.YtcalinfdckklfaaGreatDoorPk33
namespace Go.Proofs.YtcalinfdckklfaaGreatDoor
open Go.RowKit
attribute [local go_sem] Ext.cell Ext.frozen

set_option maxRecDepth 1000000 in
set_option maxHeartbeats 16000000 in
theorem rr_takes5 (p pv pl : Option Addr) (c0 cv cl : Nat) (th : List Ins) (locs : Int) (vals : List Int) (lucks : List Bool) (w : World) (R : St) (k f : Nat → Value) (s : St) (r : Nat → Value) (n : Nat) (wr : World) (Q0 : Exit → Act → World → Prop) (E : REnv p pv pl c0 cv cl th locs vals lucks w) (H : RRel th locs vals lucks w R s r (n + 1) wr) (hlt : s.next < th.length) (xd xa xb xl xi : Int) (hx : th[s.next] = ⟨5, xd, xa, xb, xl, xi⟩) (z : Int) (hv : s.vals < vals.length) (hz : vals.getD s.vals 0 = z) (hpan : ∀ c a d v w, Q0 (.panic c) (Act.put a d v) w → Q0 (.panic c) a w) :
    Code.wp Tryz.prog rbody (Exit.then (fun a' w'' => RWI p pv pl c0 cv cl th locs vals lucks w R k a' w'' ∧ rmu th a' w'' < rmu th ⟨rfrm p pv pl c0 cv cl th locs vals lucks w k f s, []⟩ wr) Q0) ⟨rfrm p pv pl c0 cv cl th locs vals lucks w k f s, []⟩ wr := by
  have hst : s.inc.step locs vals lucks ⟨5, xd, xa, xb, xl, xi⟩ = (s.inc.load locs z ⟨5, xd, xa, xb, xl, xi⟩) := by unfold St.step; rw [if_pos (by simp), if_neg (show ¬ s.inc.vals = vals.length from fun h => by have : s.vals = vals.length := h; omega), show vals.getD s.inc.vals 0 = z from hz]
  have hge : ¬ vals.length ≤ s.vals := by omega
  have hge' : ¬ (vals.length : Int) ≤ (s.vals : Int) := by omega
  have hz' : vals[s.vals] = z := by rw [← hz]; simp [hv]
  have HST : Hid _ := hst
  clear hst hz
  have hnv := E.nv
  have hwv : wrap64 ((s.vals : Int) + 1) = (s.vals : Int) + 1 := wrap_is (by omega) (by omega)
  have hlen := lens_of H.ok E.h8
  have hW := fun W (hT : TrN W r s) => with_first (rdEv locs z ⟨5, xd, xa, xb, xl, xi⟩ s) (placeD s.d 5 xa locs) 0 s.ctrl (-1) r s W hT hlen.1 hlen.2.1 hlen.2.2.1 hlen.2.2.2.1 hlen.2.2.2.2
  have HW : Hid _ := hW
  clear hW hlen
  have HX : Hid _ := hx
  have hokx := E.ok s.next _ (List.getElem?_eq_getElem hlt)
  rw [hx] at hokx
  have hrun := H.run
  rw [run_step H.more hlt, hx] at hrun
  have HRun : Hid _ := hrun
  have HOk : Hid _ := hokx
  clear hrun hokx
  have hnx := H.ok.nx
  have h8 := E.h8
  have hev := H.ok.ev
  have hwr : wrap64 ((s.next : Int) + 1) = (s.next : Int) + 1 := wrap_is (by omega) (by omega)
  have hPl := fun w => rPlace_any s.v s.d 5 xd xa xb xl xi locs w E.l1 (by have := E.l3; omega)
  have hGet := fun n w => rGet_any s.v s.d n w
  have hSet := fun n y1 y2 w => rSet_any s.v s.d n y1 y2 w
  unfold fileV at hPl hGet hSet
  have HPl : Hid _ := hPl
  have HGet : Hid _ := hGet
  have HSet : Hid _ := hSet
  clear hPl hGet hSet
  have hne : ∀ w, Nonempty (Ext w) := ext_some
  have hne2 : Nonempty AnyW := anyW_some
  have hcells := (ins_at (E.ht.keep H.B)).2 s.next hlt
  rw [hx] at hcells
  obtain ⟨ub, uo, rfl, e0, e1, e2, e3, e4, e5⟩ := hcells
  clear hx
  have hub := cell_lt e0
  obtain ⟨⟨t0, t1, t2, t3⟩, t4, t5, t6, t7⟩ := H.kt.regs
  have lt0 := H.kt.lt
  have Ba := below_new wr (.cells #[.int .i64 5, .int .i64 xd, .int .i64 xa, .int .i64 xb, .int .i64 xl, .int .i64 xi] 72)
  have kIa : InsB (wr.alloc (.cells #[.int .i64 5, .int .i64 xd, .int .i64 xa, .int .i64 xb, .int .i64 xl, .int .i64 xi] 72)) wr.heap.size 5 xd xa xb xl xi := Blk.new
  have FA := trivial
  have FB := trivial
  conv => arg 2; whnf
  unfold rfrm
  go_wp2_with (first
    | (go_at_call 106; clear FA; refine (HPl.out _).mono ?_; rintro e w1 ⟨rfl, hb1⟩; have B1 : Below wr.heap.size wr w1 := Below.thru Ba hb1 (Nat.le_refl _); have kI1 := kIa.keep hb1; have kt1 := H.kt.keep B1; obtain ⟨⟨a0, a1, a2, a3⟩, a4, a5, a6, a7⟩ := kt1.regs; obtain ⟨b0, b1, b2, b3, b4, b5⟩ := kI1.cells; have lt1 := kt1.lt; have lI1 := kI1.lt)
    | (go_at_call 107; clear FB; refine (HGet.out _ _).mono ?_; rintro e w2 ⟨rfl, hb2⟩; have B2 : Below wr.heap.size wr w2 := Below.thru B1 hb2 (Nat.le_refl _); have kI2 := kI1.keep hb2; have kt2 := H.kt.keep B2; have kz2 := H.kz.keep B2; have tr2 := H.tr.keep B2; obtain ⟨⟨i0, i1, i2, i3⟩, i4, i5, i6, i7⟩ := kt2.regs; obtain ⟨m0, m1, m2⟩ := kt2.more; obtain ⟨o0, o1, o2, o3, o4⟩ := kt2.rows; obtain ⟨j0, j1, j2, j3, j4, j5⟩ := kI2.cells; have lt2 := kt2.lt; have lI2 := kI2.lt; have lz2 := kz2.lt; have FC := trivial))
  obtain ⟨gv, ov, rfl, gz⟩ := (ints_at ((E.hv.keep H.B).keep B2)).2 s.vals hv
  rw [hz'] at gz
  have lG := cell_lt gz
  refine wp_region_mix [([0, 1, 2, 3, 4, 5, 6, 7, 8, 9, 10, 11, 12], 13), ([], 14)] [] (by kernel_rfl) (by kernel_rfl) (fun _ _ d _ _ h => hpan _ _ d _ _ h) ?_
  dsimp only [List.map, opAt]
  refine wpMix_stage ?_
  repeat (go_big_quiet_step (fail))
  refine wpQuiet_nil ?_
  go_wp2
  refine ⟨(below_new _ _).drew, ?_⟩
  refine wpMix_stage ?_
  refine wpQuiet_nil ?_
  have kZ3 : Blk (w2.alloc (.cells #[.int .i64 0, .int .i64 0, .int .i64 0, .int .i64 0, .bool false, .bool false, .bool false] 52)).drew w2.heap.size #[.int .i64 0, .int .i64 0, .int .i64 0, .int .i64 0, .bool false, .bool false, .bool false] 52 := Blk.drew Blk.new
  refine wpList_storeB (by rfl) 52 (.tmp 18) (.tmp 91) (by rfl) w2.heap.size #[.int .i64 0, .int .i64 1, .int .i64 (placeZ s.v 5 xa xl locs), .int .i64 z, .bool false, .bool false, .bool false] _ 52 (by rfl) (by rfl) kZ3 (by kernel_rfl) (by rfl) (by simp [Value.oneCell']) ?_
  intro w3 kE3 oS3 zS3
  simp only [Act.put]
  have hb3 : Below w2.heap.size w2 w3 := ((below_new w2 _).drew).trans (oS3.below (by show _ ≤ (w2.alloc _).heap.size; simp) (fun k hk => by omega))
  go_wp2
  refine ⟨hb3, ?_⟩
  refine wpMix_last ?_
  refine wpQuiet_nil ?_
  have B3 : Below wr.heap.size wr w3 := Below.thru B2 hb3 (Nat.le_refl _)
  have kt3 := H.kt.keep B3
  have kz3 := H.kz.keep B3
  have tr3 := H.tr.keep B3
  have kI3 := kI2.keep hb3
  clear kZ3 oS3 zS3 gz lG i0 i1 i2 i3 i4 i5 i6 i7 m0 m1 m2 o0 o1 o2 o3 o4 j0 j1 j2 j3 j4 j5 kt2 kz2 tr2 kI2
  obtain ⟨⟨i0, i1, i2, i3⟩, i4, i5, i6, i7⟩ := kt3.regs
  obtain ⟨m0, m1, m2⟩ := kt3.more
  obtain ⟨o0, o1, o2, o3, o4⟩ := kt3.rows
  have ee0 := kE3.cell 0
  have ee1 := kE3.cell 1
  have ee2 := kE3.cell 2
  have ee3 := kE3.cell 3
  have ee4 := kE3.cell 4
  have ee5 := kE3.cell 5
  have ee6 := kE3.cell 6
  simp only [List.getElem?_toArray, List.getElem?_cons_zero, List.getElem?_cons_succ] at ee0 ee1 ee2 ee3 ee4 ee5 ee6
  have lt3 := kt3.lt
  have lE3 := kE3.lt
  have FD := trivial
  go_wp2_with (first
    | (go_at_call 109; clear FC; refine (HW.out _ tr3.n).mono ?_; rintro e w4 ⟨r3, rfl, tr4, hb4⟩; have FX := trivial)
    | (clear FX FD; refine wpList_storeB (by rfl) 34 (.tmp 9) (.tmp 96) (by rfl) (w.heap.size + 1) (trC r3 (s.addC (rdEv locs z ⟨5, xd, xa, xb, xl, xi⟩ s) (placeD s.d 5 xa locs) 0 s.ctrl (-1))) _ 34 (by rfl) (by rfl) (kt3.keep hb4) (by kernel_rfl) (by rfl) (one16A tr4) ?_; intro w5 kt5 o5 z5; simp only [Act.put]; obtain ⟨n0, n1, n2⟩ := TrB.more kt5; simp only [St.addC] at n0 n1 n2; have fz := TrB.frozen kt5 13; have lt5 := TrB.lt kt5))
  have kt6 := TrB.setVals kt5 (n := (s.vals : Int) + 1) (k := s.vals + 1) rfl
  have O6 : Only (fun k => k = w.heap.size + 1) w4 (w5.setCell ⟨w.heap.size + 1, 13, none⟩ (.int .i64 ((s.vals : Int) + 1))) := set_only (A := fun k => k = w.heap.size + 1) o5 rfl _
  have tr6 := (tr4.mono (B := Aside2 w.heap.size) (fun b hb => ⟨by omega, by omega⟩)).only O6 (fun b hb e => hb.2.1 e)
  have kz6 : TrB (w5.setCell ⟨w.heap.size + 1, 13, none⟩ (.int .i64 ((s.vals : Int) + 1))) w.heap.size (fun _ => .slice none 0 0) .zero 34 := Blk.only (kz3.keep hb4) O6 (by omega)
  have kI6 : InsB (w5.setCell ⟨w.heap.size + 1, 13, none⟩ (.int .i64 ((s.vals : Int) + 1))) wr.heap.size 5 xd xa xb xl xi := Blk.only (kI3.keep hb4) O6 (by omega)
  have kE6 : Blk (w5.setCell ⟨w.heap.size + 1, 13, none⟩ (.int .i64 ((s.vals : Int) + 1))) w2.heap.size #[.int .i64 0, .int .i64 1, .int .i64 (placeZ s.v 5 xa xl locs), .int .i64 z, .bool false, .bool false, .bool false] 52 := Blk.only (kE3.keep hb4) O6 (by omega)
  have B6 : Below w.heap.size w (w5.setCell ⟨w.heap.size + 1, 13, none⟩ (.int .i64 ((s.vals : Int) + 1))) := (Below.thru (Below.thru H.B B3 (Nat.le_refl _)) hb4 (Nat.le_refl _)).trans (O6.below (Nat.le_trans (Nat.le_trans H.B.size B3.size) hb4.size) (fun k hk => by omega))
  obtain ⟨w6, hw6⟩ : ∃ w6, w6 = w5.setCell ⟨w.heap.size + 1, 13, none⟩ (.int .i64 ((s.vals : Int) + 1)) := ⟨_, rfl⟩
  rw [← hw6] at kt6 tr6 kz6 kI6 kE6 B6 ⊢
  clear hw6 O6 n0 n1 n2 fz lt5 i0 i1 i2 i3 i4 i5 i6 i7 m0 m1 m2 o0 o1 o2 o3 o4 ee0 ee1 ee2 ee3 ee4 ee5 ee6 lt3 lE3
  obtain ⟨⟨i0, i1, i2, i3⟩, i4, i5, i6, i7⟩ := kt6.regs
  obtain ⟨p6, c6, e6⟩ := tr6.e0.len
  obtain ⟨o0, -⟩ := kt6.rows
  rw [e6] at o0
  have ee3 := kE6.cell 3
  simp only [List.getElem?_toArray, List.getElem?_cons_zero, List.getElem?_cons_succ] at ee3
  simp only [St.addC] at i0 i1 i2 i3 i4 i5 i6 i7 o0
  obtain ⟨j0, j1, j2, j3, j4, j5⟩ := kI6.cells
  have lt6 := kt6.lt
  have lI6 := kI6.lt
  have lE6 := kE6.lt
  refine wp_region_mixL [([0, 1, 2, 3, 4, 5, 6, 7, 8, 9], 10, false), ([], 11, false), ([12], 13, true)] [] [13] (by kernel_rfl) (by kernel_rfl) (fun _ _ d _ _ h => hpan _ _ d _ _ h) ?_
  dsimp only [mapL, List.map, opAt]
  refine wpMixL_stage ?_
  repeat (go_big_quiet_step (fail))
  refine wpQuiet_nil ?_
  go_wp2_with (go_at_call 111; refine (rpower_any s.evs.length _ (by omega)).mono ?_; rintro e w7 ⟨rfl, hb7⟩)
  have B67 : Below w6.heap.size w6 w7 := Below.thru (Below.drew (Below.refl _ _)) hb7 (Nat.le_refl _)
  refine ⟨.inr B67, ?_⟩
  refine wpMixL_stage ?_
  refine wpQuiet_nil ?_
  go_wp2_with (go_at_call 110; refine (HSet.out _ _ _ _).mono ?_; rintro e w9 ⟨rfl, hb9⟩)
  have B69 : Below w6.heap.size w6 w9 := Below.thru B67 hb9 (Nat.le_refl _)
  refine ⟨.inr B69, ?_⟩
  refine wpMixL_stage ?_
  repeat (go_big_quiet_step (fail))
  refine wpQuiet_nil ?_
  have kt7 := kt6.keep B69
  refine wpList_putR (by rfl) 32 (.tmp 113) (.tmp 112) (by rfl) (w.heap.size + 1) (upd s.v xd z) (upd s.d xd (2 ^ s.evs.length)) kt7 (by rfl) (by rfl) (by kernel_rfl) ?_
  simp only [Act.put]
  have kt8 := kt7.putR (upd s.v xd z) (upd s.d xd (2 ^ s.evs.length))
  have O79 : Only (fun k => k = w.heap.size + 1) w9 (putR w9 (w.heap.size + 1) (upd s.v xd z) (upd s.d xd (2 ^ s.evs.length))) := putR_only
  obtain ⟨w8, hw8⟩ : ∃ w8, w8 = putR w9 (w.heap.size + 1) (upd s.v xd z) (upd s.d xd (2 ^ s.evs.length)) := ⟨_, rfl⟩
  rw [← hw8] at kt8 O79 ⊢
  clear hw8
  refine (show (_ ∨ _) ∧ _ from ⟨.inl trivial, ?_⟩)
  have O68 : Only (fun k => k = w.heap.size + 1) w6 w8 := (Below.only B69 : Only (fun k => k = w.heap.size + 1) _ _).trans O79 (fun _ h => .inl h)
  have tr8 := tr6.only O68 (fun b hb e => hb.2.1 e)
  have kz8 : TrB w8 w.heap.size (fun _ => .slice none 0 0) .zero 34 := Blk.only kz6 O68 (by omega)
  have kI8 : InsB w8 wr.heap.size 5 xd xa xb xl xi := Blk.only kI6 O68 (by omega)
  clear i0 i1 i2 i3 i4 i5 i6 i7 j0 j1 j2 j3 j4 j5 o0 ee3 lt6 lI6 lE6
  obtain ⟨j0, j1, j2, j3, j4, j5⟩ := kI8.cells
  obtain ⟨o0, -⟩ := kt8.rows
  rw [e6] at o0
  simp only [St.addC] at o0
  have lt8 := kt8.lt
  have lI8 := kI8.lt
  refine wpMixL_last ?_
  refine wpQuiet_nil ?_
  go_wp2
  have hst := HST.out
  have B8 : Below w.heap.size w w8 := B6.trans (O68.below B6.size (fun k hk => by omega))
  refine ⟨rwi_of (s.inc.load locs z ⟨5, xd, xa, xb, xl, xi⟩) r3 n (rrel_step E H hlt HX.out hst kt8 kz8 (tr8.st rfl rfl rfl rfl rfl) H.more (depOk_upd H.dep _ (pow_range (k := s.evs.length) (by omega))) B8) (by rfl), ?_⟩
  simp [rmu, intOf]
  omega
set_option maxRecDepth 1000000 in
set_option maxHeartbeats 16000000 in
theorem rr_takes7 (p pv pl : Option Addr) (c0 cv cl : Nat) (th : List Ins) (locs : Int) (vals : List Int) (lucks : List Bool) (w : World) (R : St) (k f : Nat → Value) (s : St) (r : Nat → Value) (n : Nat) (wr : World) (Q0 : Exit → Act → World → Prop) (E : REnv p pv pl c0 cv cl th locs vals lucks w) (H : RRel th locs vals lucks w R s r (n + 1) wr) (hlt : s.next < th.length) (xd xa xb xl xi : Int) (hx : th[s.next] = ⟨7, xd, xa, xb, xl, xi⟩) (z : Int) (hv : s.vals < vals.length) (hz : vals.getD s.vals 0 = z) (hpan : ∀ c a d v w, Q0 (.panic c) (Act.put a d v) w → Q0 (.panic c) a w) :
    Code.wp Tryz.prog rbody (Exit.then (fun a' w'' => RWI p pv pl c0 cv cl th locs vals lucks w R k a' w'' ∧ rmu th a' w'' < rmu th ⟨rfrm p pv pl c0 cv cl th locs vals lucks w k f s, []⟩ wr) Q0) ⟨rfrm p pv pl c0 cv cl th locs vals lucks w k f s, []⟩ wr := by
  have hst : s.inc.step locs vals lucks ⟨7, xd, xa, xb, xl, xi⟩ = (s.inc.load locs z ⟨7, xd, xa, xb, xl, xi⟩) := by unfold St.step; rw [if_pos (by simp), if_neg (show ¬ s.inc.vals = vals.length from fun h => by have : s.vals = vals.length := h; omega), show vals.getD s.inc.vals 0 = z from hz]
  have hge : ¬ vals.length ≤ s.vals := by omega
  have hge' : ¬ (vals.length : Int) ≤ (s.vals : Int) := by omega
  have hz' : vals[s.vals] = z := by rw [← hz]; simp [hv]
  have HST : Hid _ := hst
  clear hst hz
  have hnv := E.nv
  have hwv : wrap64 ((s.vals : Int) + 1) = (s.vals : Int) + 1 := wrap_is (by omega) (by omega)
  have hlen := lens_of H.ok E.h8
  have hW := fun W (hT : TrN W r s) => with_first (rdEv locs z ⟨7, xd, xa, xb, xl, xi⟩ s) (placeD s.d 7 xa locs) 0 s.ctrl (-1) r s W hT hlen.1 hlen.2.1 hlen.2.2.1 hlen.2.2.2.1 hlen.2.2.2.2
  have HW : Hid _ := hW
  clear hW hlen
  have HX : Hid _ := hx
  have hokx := E.ok s.next _ (List.getElem?_eq_getElem hlt)
  rw [hx] at hokx
  have hrun := H.run
  rw [run_step H.more hlt, hx] at hrun
  have HRun : Hid _ := hrun
  have HOk : Hid _ := hokx
  clear hrun hokx
  have hnx := H.ok.nx
  have h8 := E.h8
  have hev := H.ok.ev
  have hwr : wrap64 ((s.next : Int) + 1) = (s.next : Int) + 1 := wrap_is (by omega) (by omega)
  have hPl := fun w => rPlace_any s.v s.d 7 xd xa xb xl xi locs w E.l1 (by have := E.l3; omega)
  have hGet := fun n w => rGet_any s.v s.d n w
  have hSet := fun n y1 y2 w => rSet_any s.v s.d n y1 y2 w
  unfold fileV at hPl hGet hSet
  have HPl : Hid _ := hPl
  have HGet : Hid _ := hGet
  have HSet : Hid _ := hSet
  clear hPl hGet hSet
  have hne : ∀ w, Nonempty (Ext w) := ext_some
  have hne2 : Nonempty AnyW := anyW_some
  have hcells := (ins_at (E.ht.keep H.B)).2 s.next hlt
  rw [hx] at hcells
  obtain ⟨ub, uo, rfl, e0, e1, e2, e3, e4, e5⟩ := hcells
  clear hx
  have hub := cell_lt e0
  obtain ⟨⟨t0, t1, t2, t3⟩, t4, t5, t6, t7⟩ := H.kt.regs
  have lt0 := H.kt.lt
  have Ba := below_new wr (.cells #[.int .i64 7, .int .i64 xd, .int .i64 xa, .int .i64 xb, .int .i64 xl, .int .i64 xi] 72)
  have kIa : InsB (wr.alloc (.cells #[.int .i64 7, .int .i64 xd, .int .i64 xa, .int .i64 xb, .int .i64 xl, .int .i64 xi] 72)) wr.heap.size 7 xd xa xb xl xi := Blk.new
  have FA := trivial
  have FB := trivial
  conv => arg 2; whnf
  unfold rfrm
  go_wp2_with (first
    | (go_at_call 106; clear FA; refine (HPl.out _).mono ?_; rintro e w1 ⟨rfl, hb1⟩; have B1 : Below wr.heap.size wr w1 := Below.thru Ba hb1 (Nat.le_refl _); have kI1 := kIa.keep hb1; have kt1 := H.kt.keep B1; obtain ⟨⟨a0, a1, a2, a3⟩, a4, a5, a6, a7⟩ := kt1.regs; obtain ⟨b0, b1, b2, b3, b4, b5⟩ := kI1.cells; have lt1 := kt1.lt; have lI1 := kI1.lt)
    | (go_at_call 107; clear FB; refine (HGet.out _ _).mono ?_; rintro e w2 ⟨rfl, hb2⟩; have B2 : Below wr.heap.size wr w2 := Below.thru B1 hb2 (Nat.le_refl _); have kI2 := kI1.keep hb2; have kt2 := H.kt.keep B2; have kz2 := H.kz.keep B2; have tr2 := H.tr.keep B2; obtain ⟨⟨i0, i1, i2, i3⟩, i4, i5, i6, i7⟩ := kt2.regs; obtain ⟨m0, m1, m2⟩ := kt2.more; obtain ⟨o0, o1, o2, o3, o4⟩ := kt2.rows; obtain ⟨j0, j1, j2, j3, j4, j5⟩ := kI2.cells; have lt2 := kt2.lt; have lI2 := kI2.lt; have lz2 := kz2.lt; have FC := trivial))
  obtain ⟨gv, ov, rfl, gz⟩ := (ints_at ((E.hv.keep H.B).keep B2)).2 s.vals hv
  rw [hz'] at gz
  have lG := cell_lt gz
  refine wp_region_mix [([0, 1, 2, 3, 4, 5, 6, 7, 8, 9, 10, 11, 12], 13), ([], 14)] [] (by kernel_rfl) (by kernel_rfl) (fun _ _ d _ _ h => hpan _ _ d _ _ h) ?_
  dsimp only [List.map, opAt]
  refine wpMix_stage ?_
  repeat (go_big_quiet_step (fail))
  refine wpQuiet_nil ?_
  go_wp2
  refine ⟨(below_new _ _).drew, ?_⟩
  refine wpMix_stage ?_
  refine wpQuiet_nil ?_
  have kZ3 : Blk (w2.alloc (.cells #[.int .i64 0, .int .i64 0, .int .i64 0, .int .i64 0, .bool false, .bool false, .bool false] 52)).drew w2.heap.size #[.int .i64 0, .int .i64 0, .int .i64 0, .int .i64 0, .bool false, .bool false, .bool false] 52 := Blk.drew Blk.new
  refine wpList_storeB (by rfl) 52 (.tmp 18) (.tmp 91) (by rfl) w2.heap.size #[.int .i64 0, .int .i64 1, .int .i64 (placeZ s.v 7 xa xl locs), .int .i64 z, .bool true, .bool false, .bool false] _ 52 (by rfl) (by rfl) kZ3 (by kernel_rfl) (by rfl) (by simp [Value.oneCell']) ?_
  intro w3 kE3 oS3 zS3
  simp only [Act.put]
  have hb3 : Below w2.heap.size w2 w3 := ((below_new w2 _).drew).trans (oS3.below (by show _ ≤ (w2.alloc _).heap.size; simp) (fun k hk => by omega))
  go_wp2
  refine ⟨hb3, ?_⟩
  refine wpMix_last ?_
  refine wpQuiet_nil ?_
  have B3 : Below wr.heap.size wr w3 := Below.thru B2 hb3 (Nat.le_refl _)
  have kt3 := H.kt.keep B3
  have kz3 := H.kz.keep B3
  have tr3 := H.tr.keep B3
  have kI3 := kI2.keep hb3
  clear kZ3 oS3 zS3 gz lG i0 i1 i2 i3 i4 i5 i6 i7 m0 m1 m2 o0 o1 o2 o3 o4 j0 j1 j2 j3 j4 j5 kt2 kz2 tr2 kI2
  obtain ⟨⟨i0, i1, i2, i3⟩, i4, i5, i6, i7⟩ := kt3.regs
  obtain ⟨m0, m1, m2⟩ := kt3.more
  obtain ⟨o0, o1, o2, o3, o4⟩ := kt3.rows
  have ee0 := kE3.cell 0
  have ee1 := kE3.cell 1
  have ee2 := kE3.cell 2
  have ee3 := kE3.cell 3
  have ee4 := kE3.cell 4
  have ee5 := kE3.cell 5
  have ee6 := kE3.cell 6
  simp only [List.getElem?_toArray, List.getElem?_cons_zero, List.getElem?_cons_succ] at ee0 ee1 ee2 ee3 ee4 ee5 ee6
  have lt3 := kt3.lt
  have lE3 := kE3.lt
  have FD := trivial
  go_wp2_with (first
    | (go_at_call 109; clear FC; refine (HW.out _ tr3.n).mono ?_; rintro e w4 ⟨r3, rfl, tr4, hb4⟩; have FX := trivial)
    | (clear FX FD; refine wpList_storeB (by rfl) 34 (.tmp 9) (.tmp 96) (by rfl) (w.heap.size + 1) (trC r3 (s.addC (rdEv locs z ⟨7, xd, xa, xb, xl, xi⟩ s) (placeD s.d 7 xa locs) 0 s.ctrl (-1))) _ 34 (by rfl) (by rfl) (kt3.keep hb4) (by kernel_rfl) (by rfl) (one16A tr4) ?_; intro w5 kt5 o5 z5; simp only [Act.put]; obtain ⟨n0, n1, n2⟩ := TrB.more kt5; simp only [St.addC] at n0 n1 n2; have fz := TrB.frozen kt5 13; have lt5 := TrB.lt kt5))
  have kt6 := TrB.setVals kt5 (n := (s.vals : Int) + 1) (k := s.vals + 1) rfl
  have O6 : Only (fun k => k = w.heap.size + 1) w4 (w5.setCell ⟨w.heap.size + 1, 13, none⟩ (.int .i64 ((s.vals : Int) + 1))) := set_only (A := fun k => k = w.heap.size + 1) o5 rfl _
  have tr6 := (tr4.mono (B := Aside2 w.heap.size) (fun b hb => ⟨by omega, by omega⟩)).only O6 (fun b hb e => hb.2.1 e)
  have kz6 : TrB (w5.setCell ⟨w.heap.size + 1, 13, none⟩ (.int .i64 ((s.vals : Int) + 1))) w.heap.size (fun _ => .slice none 0 0) .zero 34 := Blk.only (kz3.keep hb4) O6 (by omega)
  have kI6 : InsB (w5.setCell ⟨w.heap.size + 1, 13, none⟩ (.int .i64 ((s.vals : Int) + 1))) wr.heap.size 7 xd xa xb xl xi := Blk.only (kI3.keep hb4) O6 (by omega)
  have kE6 : Blk (w5.setCell ⟨w.heap.size + 1, 13, none⟩ (.int .i64 ((s.vals : Int) + 1))) w2.heap.size #[.int .i64 0, .int .i64 1, .int .i64 (placeZ s.v 7 xa xl locs), .int .i64 z, .bool true, .bool false, .bool false] 52 := Blk.only (kE3.keep hb4) O6 (by omega)
  have B6 : Below w.heap.size w (w5.setCell ⟨w.heap.size + 1, 13, none⟩ (.int .i64 ((s.vals : Int) + 1))) := (Below.thru (Below.thru H.B B3 (Nat.le_refl _)) hb4 (Nat.le_refl _)).trans (O6.below (Nat.le_trans (Nat.le_trans H.B.size B3.size) hb4.size) (fun k hk => by omega))
  obtain ⟨w6, hw6⟩ : ∃ w6, w6 = w5.setCell ⟨w.heap.size + 1, 13, none⟩ (.int .i64 ((s.vals : Int) + 1)) := ⟨_, rfl⟩
  rw [← hw6] at kt6 tr6 kz6 kI6 kE6 B6 ⊢
  clear hw6 O6 n0 n1 n2 fz lt5 i0 i1 i2 i3 i4 i5 i6 i7 m0 m1 m2 o0 o1 o2 o3 o4 ee0 ee1 ee2 ee3 ee4 ee5 ee6 lt3 lE3
  obtain ⟨⟨i0, i1, i2, i3⟩, i4, i5, i6, i7⟩ := kt6.regs
  obtain ⟨p6, c6, e6⟩ := tr6.e0.len
  obtain ⟨o0, -⟩ := kt6.rows
  rw [e6] at o0
  have ee3 := kE6.cell 3
  simp only [List.getElem?_toArray, List.getElem?_cons_zero, List.getElem?_cons_succ] at ee3
  simp only [St.addC] at i0 i1 i2 i3 i4 i5 i6 i7 o0
  obtain ⟨j0, j1, j2, j3, j4, j5⟩ := kI6.cells
  have lt6 := kt6.lt
  have lI6 := kI6.lt
  have lE6 := kE6.lt
  refine wp_region_mixL [([0, 1, 2, 3, 4, 5, 6, 7, 8, 9], 10, false), ([], 11, false), ([12], 13, true)] [] [13] (by kernel_rfl) (by kernel_rfl) (fun _ _ d _ _ h => hpan _ _ d _ _ h) ?_
  dsimp only [mapL, List.map, opAt]
  refine wpMixL_stage ?_
  repeat (go_big_quiet_step (fail))
  refine wpQuiet_nil ?_
  go_wp2_with (go_at_call 111; refine (rpower_any s.evs.length _ (by omega)).mono ?_; rintro e w7 ⟨rfl, hb7⟩)
  have B67 : Below w6.heap.size w6 w7 := Below.thru (Below.drew (Below.refl _ _)) hb7 (Nat.le_refl _)
  refine ⟨.inr B67, ?_⟩
  refine wpMixL_stage ?_
  refine wpQuiet_nil ?_
  go_wp2_with (go_at_call 110; refine (HSet.out _ _ _ _).mono ?_; rintro e w9 ⟨rfl, hb9⟩)
  have B69 : Below w6.heap.size w6 w9 := Below.thru B67 hb9 (Nat.le_refl _)
  refine ⟨.inr B69, ?_⟩
  refine wpMixL_stage ?_
  repeat (go_big_quiet_step (fail))
  refine wpQuiet_nil ?_
  have kt7 := kt6.keep B69
  refine wpList_putR (by rfl) 32 (.tmp 113) (.tmp 112) (by rfl) (w.heap.size + 1) (upd s.v xd z) (upd s.d xd (2 ^ s.evs.length)) kt7 (by rfl) (by rfl) (by kernel_rfl) ?_
  simp only [Act.put]
  have kt8 := kt7.putR (upd s.v xd z) (upd s.d xd (2 ^ s.evs.length))
  have O79 : Only (fun k => k = w.heap.size + 1) w9 (putR w9 (w.heap.size + 1) (upd s.v xd z) (upd s.d xd (2 ^ s.evs.length))) := putR_only
  obtain ⟨w8, hw8⟩ : ∃ w8, w8 = putR w9 (w.heap.size + 1) (upd s.v xd z) (upd s.d xd (2 ^ s.evs.length)) := ⟨_, rfl⟩
  rw [← hw8] at kt8 O79 ⊢
  clear hw8
  refine (show (_ ∨ _) ∧ _ from ⟨.inl trivial, ?_⟩)
  have O68 : Only (fun k => k = w.heap.size + 1) w6 w8 := (Below.only B69 : Only (fun k => k = w.heap.size + 1) _ _).trans O79 (fun _ h => .inl h)
  have tr8 := tr6.only O68 (fun b hb e => hb.2.1 e)
  have kz8 : TrB w8 w.heap.size (fun _ => .slice none 0 0) .zero 34 := Blk.only kz6 O68 (by omega)
  have kI8 : InsB w8 wr.heap.size 7 xd xa xb xl xi := Blk.only kI6 O68 (by omega)
  clear i0 i1 i2 i3 i4 i5 i6 i7 j0 j1 j2 j3 j4 j5 o0 ee3 lt6 lI6 lE6
  obtain ⟨j0, j1, j2, j3, j4, j5⟩ := kI8.cells
  obtain ⟨o0, -⟩ := kt8.rows
  rw [e6] at o0
  simp only [St.addC] at o0
  have lt8 := kt8.lt
  have lI8 := kI8.lt
  refine wpMixL_last ?_
  refine wpQuiet_nil ?_
  go_wp2
  have hst := HST.out
  have B8 : Below w.heap.size w w8 := B6.trans (O68.below B6.size (fun k hk => by omega))
  refine ⟨rwi_of (s.inc.load locs z ⟨7, xd, xa, xb, xl, xi⟩) r3 n (rrel_step E H hlt HX.out hst kt8 kz8 (tr8.st rfl rfl rfl rfl rfl) H.more (depOk_upd H.dep _ (pow_range (k := s.evs.length) (by omega))) B8) (by rfl), ?_⟩
  simp [rmu, intOf]
  omega
set_option maxRecDepth 1000000 in
set_option maxHeartbeats 16000000 in
theorem rr_takes9 (p pv pl : Option Addr) (c0 cv cl : Nat) (th : List Ins) (locs : Int) (vals : List Int) (lucks : List Bool) (w : World) (R : St) (k f : Nat → Value) (s : St) (r : Nat → Value) (n : Nat) (wr : World) (Q0 : Exit → Act → World → Prop) (E : REnv p pv pl c0 cv cl th locs vals lucks w) (H : RRel th locs vals lucks w R s r (n + 1) wr) (hlt : s.next < th.length) (xd xa xb xl xi : Int) (hx : th[s.next] = ⟨9, xd, xa, xb, xl, xi⟩) (z : Int) (hv : s.vals < vals.length) (hz : vals.getD s.vals 0 = z) (hpan : ∀ c a d v w, Q0 (.panic c) (Act.put a d v) w → Q0 (.panic c) a w) :
    Code.wp Tryz.prog rbody (Exit.then (fun a' w'' => RWI p pv pl c0 cv cl th locs vals lucks w R k a' w'' ∧ rmu th a' w'' < rmu th ⟨rfrm p pv pl c0 cv cl th locs vals lucks w k f s, []⟩ wr) Q0) ⟨rfrm p pv pl c0 cv cl th locs vals lucks w k f s, []⟩ wr := by
  have hst : s.inc.step locs vals lucks ⟨9, xd, xa, xb, xl, xi⟩ = (s.inc.load locs z ⟨9, xd, xa, xb, xl, xi⟩) := by unfold St.step; rw [if_pos (by simp), if_neg (show ¬ s.inc.vals = vals.length from fun h => by have : s.vals = vals.length := h; omega), show vals.getD s.inc.vals 0 = z from hz]
  have hge : ¬ vals.length ≤ s.vals := by omega
  have hge' : ¬ (vals.length : Int) ≤ (s.vals : Int) := by omega
  have hz' : vals[s.vals] = z := by rw [← hz]; simp [hv]
  have HST : Hid _ := hst
  clear hst hz
  have hnv := E.nv
  have hwv : wrap64 ((s.vals : Int) + 1) = (s.vals : Int) + 1 := wrap_is (by omega) (by omega)
  have hlen := lens_of H.ok E.h8
  have hW := fun W (hT : TrN W r s) => with_first (rdEv locs z ⟨9, xd, xa, xb, xl, xi⟩ s) (placeD s.d 9 xa locs) 0 s.ctrl (-1) r s W hT hlen.1 hlen.2.1 hlen.2.2.1 hlen.2.2.2.1 hlen.2.2.2.2
  have HW : Hid _ := hW
  clear hW hlen
  have HX : Hid _ := hx
  have hokx := E.ok s.next _ (List.getElem?_eq_getElem hlt)
  rw [hx] at hokx
  have hrun := H.run
  rw [run_step H.more hlt, hx] at hrun
  have HRun : Hid _ := hrun
  have HOk : Hid _ := hokx
  clear hrun hokx
  have hnx := H.ok.nx
  have h8 := E.h8
  have hev := H.ok.ev
  have hwr : wrap64 ((s.next : Int) + 1) = (s.next : Int) + 1 := wrap_is (by omega) (by omega)
  have hPl := fun w => rPlace_any s.v s.d 9 xd xa xb xl xi locs w E.l1 (by have := E.l3; omega)
  have hGet := fun n w => rGet_any s.v s.d n w
  have hSet := fun n y1 y2 w => rSet_any s.v s.d n y1 y2 w
  unfold fileV at hPl hGet hSet
  have HPl : Hid _ := hPl
  have HGet : Hid _ := hGet
  have HSet : Hid _ := hSet
  clear hPl hGet hSet
  have hne : ∀ w, Nonempty (Ext w) := ext_some
  have hne2 : Nonempty AnyW := anyW_some
  have hcells := (ins_at (E.ht.keep H.B)).2 s.next hlt
  rw [hx] at hcells
  obtain ⟨ub, uo, rfl, e0, e1, e2, e3, e4, e5⟩ := hcells
  clear hx
  have hub := cell_lt e0
  obtain ⟨⟨t0, t1, t2, t3⟩, t4, t5, t6, t7⟩ := H.kt.regs
  have lt0 := H.kt.lt
  have Ba := below_new wr (.cells #[.int .i64 9, .int .i64 xd, .int .i64 xa, .int .i64 xb, .int .i64 xl, .int .i64 xi] 72)
  have kIa : InsB (wr.alloc (.cells #[.int .i64 9, .int .i64 xd, .int .i64 xa, .int .i64 xb, .int .i64 xl, .int .i64 xi] 72)) wr.heap.size 9 xd xa xb xl xi := Blk.new
  have FA := trivial
  have FB := trivial
  conv => arg 2; whnf
  unfold rfrm
  go_wp2_with (first
    | (go_at_call 106; clear FA; refine (HPl.out _).mono ?_; rintro e w1 ⟨rfl, hb1⟩; have B1 : Below wr.heap.size wr w1 := Below.thru Ba hb1 (Nat.le_refl _); have kI1 := kIa.keep hb1; have kt1 := H.kt.keep B1; obtain ⟨⟨a0, a1, a2, a3⟩, a4, a5, a6, a7⟩ := kt1.regs; obtain ⟨b0, b1, b2, b3, b4, b5⟩ := kI1.cells; have lt1 := kt1.lt; have lI1 := kI1.lt)
    | (go_at_call 107; clear FB; refine (HGet.out _ _).mono ?_; rintro e w2 ⟨rfl, hb2⟩; have B2 : Below wr.heap.size wr w2 := Below.thru B1 hb2 (Nat.le_refl _); have kI2 := kI1.keep hb2; have kt2 := H.kt.keep B2; have kz2 := H.kz.keep B2; have tr2 := H.tr.keep B2; obtain ⟨⟨i0, i1, i2, i3⟩, i4, i5, i6, i7⟩ := kt2.regs; obtain ⟨m0, m1, m2⟩ := kt2.more; obtain ⟨o0, o1, o2, o3, o4⟩ := kt2.rows; obtain ⟨j0, j1, j2, j3, j4, j5⟩ := kI2.cells; have lt2 := kt2.lt; have lI2 := kI2.lt; have lz2 := kz2.lt; have FC := trivial))
  obtain ⟨gv, ov, rfl, gz⟩ := (ints_at ((E.hv.keep H.B).keep B2)).2 s.vals hv
  rw [hz'] at gz
  have lG := cell_lt gz
  refine wp_region_mix [([0, 1, 2, 3, 4, 5, 6, 7, 8, 9, 10, 11, 12], 13), ([], 14)] [] (by kernel_rfl) (by kernel_rfl) (fun _ _ d _ _ h => hpan _ _ d _ _ h) ?_
  dsimp only [List.map, opAt]
  refine wpMix_stage ?_
  repeat (go_big_quiet_step (fail))
  refine wpQuiet_nil ?_
  go_wp2
  refine ⟨(below_new _ _).drew, ?_⟩
  refine wpMix_stage ?_
  refine wpQuiet_nil ?_
  have kZ3 : Blk (w2.alloc (.cells #[.int .i64 0, .int .i64 0, .int .i64 0, .int .i64 0, .bool false, .bool false, .bool false] 52)).drew w2.heap.size #[.int .i64 0, .int .i64 0, .int .i64 0, .int .i64 0, .bool false, .bool false, .bool false] 52 := Blk.drew Blk.new
  refine wpList_storeB (by rfl) 52 (.tmp 18) (.tmp 91) (by rfl) w2.heap.size #[.int .i64 0, .int .i64 1, .int .i64 (placeZ s.v 9 xa xl locs), .int .i64 z, .bool false, .bool false, .bool true] _ 52 (by rfl) (by rfl) kZ3 (by kernel_rfl) (by rfl) (by simp [Value.oneCell']) ?_
  intro w3 kE3 oS3 zS3
  simp only [Act.put]
  have hb3 : Below w2.heap.size w2 w3 := ((below_new w2 _).drew).trans (oS3.below (by show _ ≤ (w2.alloc _).heap.size; simp) (fun k hk => by omega))
  go_wp2
  refine ⟨hb3, ?_⟩
  refine wpMix_last ?_
  refine wpQuiet_nil ?_
  have B3 : Below wr.heap.size wr w3 := Below.thru B2 hb3 (Nat.le_refl _)
  have kt3 := H.kt.keep B3
  have kz3 := H.kz.keep B3
  have tr3 := H.tr.keep B3
  have kI3 := kI2.keep hb3
  clear kZ3 oS3 zS3 gz lG i0 i1 i2 i3 i4 i5 i6 i7 m0 m1 m2 o0 o1 o2 o3 o4 j0 j1 j2 j3 j4 j5 kt2 kz2 tr2 kI2
  obtain ⟨⟨i0, i1, i2, i3⟩, i4, i5, i6, i7⟩ := kt3.regs
  obtain ⟨m0, m1, m2⟩ := kt3.more
  obtain ⟨o0, o1, o2, o3, o4⟩ := kt3.rows
  have ee0 := kE3.cell 0
  have ee1 := kE3.cell 1
  have ee2 := kE3.cell 2
  have ee3 := kE3.cell 3
  have ee4 := kE3.cell 4
  have ee5 := kE3.cell 5
  have ee6 := kE3.cell 6
  simp only [List.getElem?_toArray, List.getElem?_cons_zero, List.getElem?_cons_succ] at ee0 ee1 ee2 ee3 ee4 ee5 ee6
  have lt3 := kt3.lt
  have lE3 := kE3.lt
  have FD := trivial
  go_wp2_with (first
    | (go_at_call 109; clear FC; refine (HW.out _ tr3.n).mono ?_; rintro e w4 ⟨r3, rfl, tr4, hb4⟩; have FX := trivial)
    | (clear FX FD; refine wpList_storeB (by rfl) 34 (.tmp 9) (.tmp 96) (by rfl) (w.heap.size + 1) (trC r3 (s.addC (rdEv locs z ⟨9, xd, xa, xb, xl, xi⟩ s) (placeD s.d 9 xa locs) 0 s.ctrl (-1))) _ 34 (by rfl) (by rfl) (kt3.keep hb4) (by kernel_rfl) (by rfl) (one16A tr4) ?_; intro w5 kt5 o5 z5; simp only [Act.put]; obtain ⟨n0, n1, n2⟩ := TrB.more kt5; simp only [St.addC] at n0 n1 n2; have fz := TrB.frozen kt5 13; have lt5 := TrB.lt kt5))
  have kt6 := TrB.setVals kt5 (n := (s.vals : Int) + 1) (k := s.vals + 1) rfl
  have O6 : Only (fun k => k = w.heap.size + 1) w4 (w5.setCell ⟨w.heap.size + 1, 13, none⟩ (.int .i64 ((s.vals : Int) + 1))) := set_only (A := fun k => k = w.heap.size + 1) o5 rfl _
  have tr6 := (tr4.mono (B := Aside2 w.heap.size) (fun b hb => ⟨by omega, by omega⟩)).only O6 (fun b hb e => hb.2.1 e)
  have kz6 : TrB (w5.setCell ⟨w.heap.size + 1, 13, none⟩ (.int .i64 ((s.vals : Int) + 1))) w.heap.size (fun _ => .slice none 0 0) .zero 34 := Blk.only (kz3.keep hb4) O6 (by omega)
  have kI6 : InsB (w5.setCell ⟨w.heap.size + 1, 13, none⟩ (.int .i64 ((s.vals : Int) + 1))) wr.heap.size 9 xd xa xb xl xi := Blk.only (kI3.keep hb4) O6 (by omega)
  have kE6 : Blk (w5.setCell ⟨w.heap.size + 1, 13, none⟩ (.int .i64 ((s.vals : Int) + 1))) w2.heap.size #[.int .i64 0, .int .i64 1, .int .i64 (placeZ s.v 9 xa xl locs), .int .i64 z, .bool false, .bool false, .bool true] 52 := Blk.only (kE3.keep hb4) O6 (by omega)
  have B6 : Below w.heap.size w (w5.setCell ⟨w.heap.size + 1, 13, none⟩ (.int .i64 ((s.vals : Int) + 1))) := (Below.thru (Below.thru H.B B3 (Nat.le_refl _)) hb4 (Nat.le_refl _)).trans (O6.below (Nat.le_trans (Nat.le_trans H.B.size B3.size) hb4.size) (fun k hk => by omega))
  obtain ⟨w6, hw6⟩ : ∃ w6, w6 = w5.setCell ⟨w.heap.size + 1, 13, none⟩ (.int .i64 ((s.vals : Int) + 1)) := ⟨_, rfl⟩
  rw [← hw6] at kt6 tr6 kz6 kI6 kE6 B6 ⊢
  clear hw6 O6 n0 n1 n2 fz lt5 i0 i1 i2 i3 i4 i5 i6 i7 m0 m1 m2 o0 o1 o2 o3 o4 ee0 ee1 ee2 ee3 ee4 ee5 ee6 lt3 lE3
  obtain ⟨⟨i0, i1, i2, i3⟩, i4, i5, i6, i7⟩ := kt6.regs
  obtain ⟨p6, c6, e6⟩ := tr6.e0.len
  obtain ⟨o0, -⟩ := kt6.rows
  rw [e6] at o0
  have ee3 := kE6.cell 3
  simp only [List.getElem?_toArray, List.getElem?_cons_zero, List.getElem?_cons_succ] at ee3
  simp only [St.addC] at i0 i1 i2 i3 i4 i5 i6 i7 o0
  obtain ⟨j0, j1, j2, j3, j4, j5⟩ := kI6.cells
  have lt6 := kt6.lt
  have lI6 := kI6.lt
  have lE6 := kE6.lt
  refine wp_region_mixL [([0, 1, 2, 3, 4, 5, 6, 7, 8, 9], 10, false), ([], 11, false), ([12], 13, true)] [] [13] (by kernel_rfl) (by kernel_rfl) (fun _ _ d _ _ h => hpan _ _ d _ _ h) ?_
  dsimp only [mapL, List.map, opAt]
  refine wpMixL_stage ?_
  repeat (go_big_quiet_step (fail))
  refine wpQuiet_nil ?_
  go_wp2_with (go_at_call 111; refine (rpower_any s.evs.length _ (by omega)).mono ?_; rintro e w7 ⟨rfl, hb7⟩)
  have B67 : Below w6.heap.size w6 w7 := Below.thru (Below.drew (Below.refl _ _)) hb7 (Nat.le_refl _)
  refine ⟨.inr B67, ?_⟩
  refine wpMixL_stage ?_
  refine wpQuiet_nil ?_
  go_wp2_with (go_at_call 110; refine (HSet.out _ _ _ _).mono ?_; rintro e w9 ⟨rfl, hb9⟩)
  have B69 : Below w6.heap.size w6 w9 := Below.thru B67 hb9 (Nat.le_refl _)
  refine ⟨.inr B69, ?_⟩
  refine wpMixL_stage ?_
  repeat (go_big_quiet_step (fail))
  refine wpQuiet_nil ?_
  have kt7 := kt6.keep B69
  refine wpList_putR (by rfl) 32 (.tmp 113) (.tmp 112) (by rfl) (w.heap.size + 1) (upd s.v xd z) (upd s.d xd (2 ^ s.evs.length)) kt7 (by rfl) (by rfl) (by kernel_rfl) ?_
  simp only [Act.put]
  have kt8 := kt7.putR (upd s.v xd z) (upd s.d xd (2 ^ s.evs.length))
  have O79 : Only (fun k => k = w.heap.size + 1) w9 (putR w9 (w.heap.size + 1) (upd s.v xd z) (upd s.d xd (2 ^ s.evs.length))) := putR_only
  obtain ⟨w8, hw8⟩ : ∃ w8, w8 = putR w9 (w.heap.size + 1) (upd s.v xd z) (upd s.d xd (2 ^ s.evs.length)) := ⟨_, rfl⟩
  rw [← hw8] at kt8 O79 ⊢
  clear hw8
  refine (show (_ ∨ _) ∧ _ from ⟨.inl trivial, ?_⟩)
  have O68 : Only (fun k => k = w.heap.size + 1) w6 w8 := (Below.only B69 : Only (fun k => k = w.heap.size + 1) _ _).trans O79 (fun _ h => .inl h)
  have tr8 := tr6.only O68 (fun b hb e => hb.2.1 e)
  have kz8 : TrB w8 w.heap.size (fun _ => .slice none 0 0) .zero 34 := Blk.only kz6 O68 (by omega)
  have kI8 : InsB w8 wr.heap.size 9 xd xa xb xl xi := Blk.only kI6 O68 (by omega)
  clear i0 i1 i2 i3 i4 i5 i6 i7 j0 j1 j2 j3 j4 j5 o0 ee3 lt6 lI6 lE6
  obtain ⟨j0, j1, j2, j3, j4, j5⟩ := kI8.cells
  obtain ⟨o0, -⟩ := kt8.rows
  rw [e6] at o0
  simp only [St.addC] at o0
  have lt8 := kt8.lt
  have lI8 := kI8.lt
  refine wpMixL_last ?_
  refine wpQuiet_nil ?_
  go_wp2
  have hst := HST.out
  have B8 : Below w.heap.size w w8 := B6.trans (O68.below B6.size (fun k hk => by omega))
  refine ⟨rwi_of (s.inc.load locs z ⟨9, xd, xa, xb, xl, xi⟩) r3 n (rrel_step E H hlt HX.out hst kt8 kz8 (tr8.st rfl rfl rfl rfl rfl) H.more (depOk_upd H.dep _ (pow_range (k := s.evs.length) (by omega))) B8) (by rfl), ?_⟩
  simp [rmu, intOf]
  omega
end Go.Proofs.YtcalinfdckklfaaGreatDoor
