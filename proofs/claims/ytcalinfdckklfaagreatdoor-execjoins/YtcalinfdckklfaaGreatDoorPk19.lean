/- FlowAdd: FlowAdd, FlowWrite, FlowLoad, FlowRest, in one text. -/
import Derived.Test.YtcalinfdckklfaaGreatDoorPk5
import Derived.Test.YtcalinfdckklfaaGreatDoorPk1
namespace Go.Proofs.YtcalinfdckklfaaGreatDoor
open Go.RowKit
attribute [local go_sem] Ext.cell Ext.frozen

theorem infoGet {P : Program} {t : TypeId} {a b c : Nat} (h : ((P.info? t).map fun i => (i.zero.map (·.cells.size), i.size, i.bytes)) = some (some a, b, c)) : ∃ i z, P.info? t = some i ∧ i.zero = some z ∧ z.cells.size = a ∧ i.size = b ∧ i.bytes = c := by
  cases hi : P.info? t with
  | none => rw [hi] at h; simp at h
  | some i =>
    rw [hi] at h
    simp only [Option.map_some, Option.some.injEq, Prod.mk.injEq] at h
    obtain ⟨h1, h2, h3⟩ := h
    cases hz : i.zero with
    | none => rw [hz] at h1; simp at h1
    | some z => rw [hz] at h1; exact ⟨i, z, rfl, hz, by simpa using h1, h2, h3⟩
theorem infoEv : ((Tryz.prog.info? 52).map fun i => (i.zero.map (·.cells.size), i.size, i.bytes)) = some (some 7, 7, 40) := by kernel_rfl
theorem infoU32 : ((Tryz.prog.info? 29).map fun i => (i.zero.map (·.cells.size), i.size, i.bytes)) = some (some 1, 1, 4) := by kernel_rfl
theorem infoInt : ((Tryz.prog.info? 3).map fun i => (i.zero.map (·.cells.size), i.size, i.bytes)) = some (some 1, 1, 8) := by kernel_rfl

set_option maxHeartbeats 4000000 in
theorem add_any (e : Ev) (a d q : Int) (b base : Nat) (r : Nat → Value) (evs : List Ev) (ad da ct pa : List Int) (t : Tail) (w : World)
    (kB : RB w b (r 0) (r 1) (r 2) (r 3) (r 4) t) (k5 : Five w base r evs ad da ct pa) (hb : b < base) (hbs : base ≤ w.heap.size)
    (l0 : evs.length ≤ 1000000) (l1 : ad.length ≤ 1000000) (l2 : da.length ≤ 1000000) (l3 : ct.length ≤ 1000000) (l4 : pa.length ≤ 1000000) :
    Calls Tryz.prog 122 #[.pointer (some ⟨b, 0, none⟩), .agg #[.int .i64 e.th, .int .i64 e.kd, .int .i64 e.lc, .int .i64 e.vl, .bool e.aq, .bool e.rl, .bool e.ex], .int .u32 a, .int .u32 d, .int .i64 q] w fun x w' =>
      x = .returned (.tuple #[]) ∧ ∃ r', RB w' b (r' 0) (r' 1) (r' 2) (r' 3) (r' 4) t ∧ Five w' base r' (evs ++ [e]) (ad ++ [a]) (da ++ [d]) (ct ++ [t.ctrl]) (pa ++ [q]) ∧ Only (RS b r) w w' ∧ ∀ k, RS b r' k → RS b r k ∨ w.heap.size ≤ k := by
  obtain ⟨i0, z0, j1, j2, j3, j4, j5⟩ := infoGet infoEv
  have J1 : Hid _ := j1
  have J2 : Hid _ := j2
  have J3 : Hid _ := j3
  have J4 : Hid _ := j4
  have J5 : Hid _ := j5
  clear j1 j2 j3 j4 j5
  obtain ⟨i1, z1, j1, j2, j3, j4, j5⟩ := infoGet infoU32
  have K1 : Hid _ := j1
  have K2 : Hid _ := j2
  have K3 : Hid _ := j3
  have K4 : Hid _ := j4
  have K5 : Hid _ := j5
  clear j1 j2 j3 j4 j5
  obtain ⟨i2, z2, j1, j2, j3, j4, j5⟩ := infoGet infoInt
  have M1 : Hid _ := j1
  have M2 : Hid _ := j2
  have M3 : Hid _ := j3
  have M4 : Hid _ := j4
  have M5 : Hid _ := j5
  clear j1 j2 j3 j4 j5
  obtain ⟨p0, c0, h0⟩ := k5.e0.len
  obtain ⟨p1, c1, h1⟩ := k5.e1.len
  obtain ⟨p2, c2, h2⟩ := k5.e2.len
  obtain ⟨p3, c3, h3⟩ := k5.e3.len
  obtain ⟨p4, c4, h4⟩ := k5.e4.len
  have hne : ∀ w, Nonempty (Ext w) := ext_some
  have hne2 : Nonempty AnyW := anyW_some
  go_enter Tryz.func122, Tryz.ntmps122
  go_wp2
  obtain ⟨w1, hw1, B1, kE⟩ : ∃ w1, w1 = w.alloc (.cells #[.int .i64 e.th, .int .i64 e.kd, .int .i64 e.lc, .int .i64 e.vl, .bool e.aq, .bool e.rl, .bool e.ex] 52) ∧ Below w.heap.size w w1 ∧ Blk w1 w.heap.size #[.int .i64 e.th, .int .i64 e.kd, .int .i64 e.lc, .int .i64 e.vl, .bool e.aq, .bool e.rl, .bool e.ex] 52 :=
    ⟨_, rfl, below_new _ _, Blk.new⟩
  rw [← hw1]
  clear hw1
  have kB1 := kB.keep B1
  have k51 := k5.keep B1
  obtain ⟨x0, x1, x2, x3, x4⟩ := kB1.rows
  have lB := kB1.lt
  have lE := kE.lt
  have ee := fun i => kE.cell i
  have ee0 := ee 0
  have ee1 := ee 1
  have ee2 := ee 2
  have ee3 := ee 3
  have ee4 := ee 4
  have ee5 := ee 5
  have ee6 := ee 6
  clear ee
  simp at ee0 ee1 ee2 ee3 ee4 ee5 ee6
  refine wp_region_mixL [([0, 1, 2, 3, 4, 5, 6], 7, false), ([], 8, true), ([9, 10, 11], 12, true)] [] [8, 12] (by kernel_rfl) (by kernel_rfl) (fun _ _ d _ _ h => by cases d <;> exact h) ?_
  dsimp only [mapL, List.map, opAt]
  refine wpMixL_stage ?_
  repeat (go_big_quiet_step (fail))
  refine wpQuiet_nil ?_
  go_wp2
  obtain ⟨w2, hw2, B2, kN⟩ : ∃ w2, w2 = (w1.alloc (.cells #[.int .i64 e.th, .int .i64 e.kd, .int .i64 e.lc, .int .i64 e.vl, .bool e.aq, .bool e.rl, .bool e.ex] 52)).drew ∧ Below w1.heap.size w1 w2 ∧ Blk w2 w1.heap.size #[.int .i64 e.th, .int .i64 e.kd, .int .i64 e.lc, .int .i64 e.vl, .bool e.aq, .bool e.rl, .bool e.ex] 52 :=
    ⟨_, rfl, (below_new _ _).drew, Blk.drew Blk.new⟩
  rw [← hw2]
  clear hw2
  refine ⟨.inr B2, ?_⟩
  refine wpMixL_stage ?_
  refine wpQuiet_nil ?_
  have kB2 := kB1.keep B2
  have k52 := k51.keep B2
  go_wp2_with (at_builtin; refine wpList_push (R := EvE) (xs := evs) (x := e) (by rfl) (.tmp 15) (.tmp 17) 25 52 i0 z0 40 (by rfl) Tryz.underlying25 J1.out J2.out J4.out J5.out J3.out base (.slice p0 evs.length c0) w1.heap.size (by rfl) (by rfl) (by rw [← h0]; exact k52.e0) e.cells (fun _ _ => rfl) (fun _ _ _ _ _ h => h) (fun j u hj => (kN.cell j).trans (by simpa [Ev.cells] using hj)) l0 (by decide) (Nat.le_trans hbs (Nat.le_trans B1.size B2.size)) ?_; intro p6 c6 w3 hO3 hg3 hv3)
  rw [← h0] at hg3 hv3
  have k53 := k52.app0 hg3 hO3 hv3
  have kB3 : RB w3 b (r 0) (r 1) (r 2) (r 3) (r 4) t := Blk.grown kB2 hg3 (fun e => by have := (k52.lt (i := 0) (by decide) e.symm).1; omega)
  obtain ⟨y0, y1, y2, y3, y4⟩ := kB3.rows
  have f0 := kB3.frozen 0
  refine ⟨.inl trivial, ?_⟩
  refine wpMixL_stage_late ?_
  simp only [Act.put, List.setIfInBounds_toArray, List.set]
  repeat (go_big_quiet_step (fail))
  refine wpQuiet_nil ?_
  go_wp2
  obtain ⟨O4, S4⟩ := app_only (b := b) (i := 0) (r0 := r) (r := r) (v := .slice p6 (evs.length + 1) c6) (by decide) (Below.only B1) (fun _ h => .inl h) B2 hg3 hv3
  have kB4 := kB3.set0 (.slice p6 (evs.length + 1) c6)
  have k54 := k53.set (i := 0) hb (.slice p6 (evs.length + 1) c6)
  have bs4 : base ≤ (w3.setCell ⟨b, 0, none⟩ (.slice p6 (evs.length + 1) c6)).heap.size := by have := O4.size; omega
  obtain ⟨w4, hw4⟩ : ∃ w4, w4 = w3.setCell ⟨b, 0, none⟩ (.slice p6 (evs.length + 1) c6) := ⟨_, rfl⟩
  rw [← hw4] at O4 kB4 k54 bs4 ⊢
  clear hw4 kB1 kB2 kB3 k51 k52 k53 B1 B2 hg3 hv3 hO3 y0 y1 y2 y3 y4 x0 x1 x2 x3 x4 f0 kE kN ee0 ee1 ee2 ee3 ee4 ee5 ee6 lE lB
  refine ⟨.inl trivial, ?_⟩
  refine wpMixL_last ?_
  refine wpQuiet_nil ?_
  obtain ⟨x0, x1, x2, x3, x4⟩ := kB4.rows
  have lB := kB4.lt
  have F1 := trivial
  go_wp2_with (first
    | (at_builtin; clear F1; have B1 := below_new (w4) (.cells #[.int .u32 a] 29); have kN1 : Blk ((w4).alloc (.cells #[.int .u32 a] 29)) w4.heap.size #[.int .u32 a] 29 := Blk.newAt (by simp); have k5a1 := (k54).keep B1; refine wpList_push (R := MskE) (xs := ad) (x := a) (by rfl) (.tmp 27) (.tmp 29) 26 29 i1 z1 4 (by rfl) Tryz.underlying26 K1.out K2.out K4.out K5.out K3.out base (.slice p1 ad.length c1) w4.heap.size (by rfl) (by rfl) (by rw [← h1]; exact k5a1.e1) [.int .u32 a] (fun _ _ => rfl) (fun _ _ _ _ _ h => h) (fun j u hj => (kN1.cell j).trans (by simpa using hj)) l1 (by decide) (Nat.le_trans (Nat.le_trans hbs (Only.size O4)) B1.size) ?_; intro q1 d1 wa1 hO1 hg1 hv1; rw [← h1] at hg1 hv1; have k5b1 := k5a1.app1 hg1 hO1 hv1; have kBb1 := Blk.grown ((kB4).keep B1) hg1 (fun e => by have := (k5a1.lt (i := 1) (by decide) e.symm).1; omega); have g1 := Blk.frozen kBb1 1; obtain ⟨u10, u11, u12, u13, u14⟩ := RB.rows kBb1; have F2 := trivial)
    | (at_builtin; clear F2; have B2 := below_new (wa1.setCell ⟨b, 1, none⟩ (.slice q1 (ad.length + 1) d1)) (.cells #[.int .u32 d] 29); have kN2 : Blk ((wa1.setCell ⟨b, 1, none⟩ (.slice q1 (ad.length + 1) d1)).alloc (.cells #[.int .u32 d] 29)) wa1.heap.size #[.int .u32 d] 29 := Blk.newAt (by simp); have k5a2 := (k5b1.set (i := 1) hb (.slice q1 (ad.length + 1) d1)).keep B2; refine wpList_push (R := MskE) (xs := da) (x := d) (by rfl) (.tmp 39) (.tmp 41) 26 29 i1 z1 4 (by rfl) Tryz.underlying26 K1.out K2.out K4.out K5.out K3.out base (.slice p2 da.length c2) wa1.heap.size (by rfl) (by rfl) (by rw [← h2]; exact k5a2.e2) [.int .u32 d] (fun _ _ => rfl) (fun _ _ _ _ _ h => h) (fun j u hj => (kN2.cell j).trans (by simpa using hj)) l2 (by decide) (Nat.le_trans (Nat.le_trans hbs (Only.size (app_only (b := b) (i := 1) (r0 := r) (r := updV r 0 (.slice p6 (evs.length + 1) c6)) (v := .slice q1 (ad.length + 1) d1) (by decide) O4 S4 B1 hg1 hv1).1)) B2.size) ?_; intro q2 d2 wa2 hO2 hg2 hv2; rw [← h2] at hg2 hv2; have k5b2 := k5a2.app2 hg2 hO2 hv2; have kBb2 := Blk.grown ((RB.set1 kBb1 (.slice q1 (ad.length + 1) d1)).keep B2) hg2 (fun e => by have := (k5a2.lt (i := 2) (by decide) e.symm).1; omega); have g2 := Blk.frozen kBb2 2; obtain ⟨u20, u21, u22, u23, u24⟩ := RB.rows kBb2; have F3 := trivial))
  obtain ⟨O5, S5⟩ := app_only (b := b) (i := 1) (r0 := r) (r := updV r 0 (.slice p6 (evs.length + 1) c6)) (v := .slice q1 (ad.length + 1) d1) (by decide) O4 S4 B1 hg1 hv1
  obtain ⟨O6, S6⟩ := app_only (b := b) (i := 2) (r0 := r) (r := updV (updV r 0 (.slice p6 (evs.length + 1) c6)) 1 (.slice q1 (ad.length + 1) d1)) (v := .slice q2 (da.length + 1) d2) (by decide) O5 S5 B2 hg2 hv2
  have kB6 := RB.set2 kBb2 (.slice q2 (da.length + 1) d2)
  have k56 := k5b2.set (i := 2) hb (.slice q2 (da.length + 1) d2)
  obtain ⟨w6, hw6⟩ : ∃ w6, w6 = wa2.setCell ⟨b, 2, none⟩ (.slice q2 (da.length + 1) d2) := ⟨_, rfl⟩
  rw [← hw6] at O6 kB6 k56 ⊢
  clear hw6 O4 O5 S4 S5 kB4 k54 bs4 kBb1 kBb2 k5b1 k5b2 k5a1 k5a2 kN1 kN2 B1 B2 hg1 hg2 hv1 hv2 hO1 hO2 g1 g2 u10 u11 u12 u13 u14 u20 u21 u22 u23 u24 x0 x1 x2 x3 x4 lB F3
  obtain ⟨x0, x1, x2, x3, x4⟩ := kB6.rows
  obtain ⟨-, -, -, -, x20, -⟩ := kB6.more
  have lB := kB6.lt
  refine wp_region_mixL [([0, 1, 2, 3, 4, 5, 6, 7, 8, 9], 10, false), ([], 11, true), ([12, 13, 14], 15, true)] [] [11, 15] (by kernel_rfl) (by kernel_rfl) (fun _ _ d _ _ h => by cases d <;> exact h) ?_
  dsimp only [mapL, List.map, opAt]
  refine wpMixL_stage ?_
  repeat (go_big_quiet_step (fail))
  refine wpQuiet_nil ?_
  go_wp2
  obtain ⟨w7, hw7, B7, kN⟩ : ∃ w7, w7 = (w6.alloc (.cells #[.int .u32 t.ctrl] 29)).drew ∧ Below w6.heap.size w6 w7 ∧ Blk w7 w6.heap.size #[.int .u32 t.ctrl] 29 :=
    ⟨_, rfl, (below_new _ _).drew, Blk.drew Blk.new⟩
  rw [← hw7]
  clear hw7
  refine ⟨.inr B7, ?_⟩
  refine wpMixL_stage ?_
  refine wpQuiet_nil ?_
  have k57 := k56.keep B7
  go_wp2_with (at_builtin; refine wpList_push (R := MskE) (xs := ct) (x := t.ctrl) (by rfl) (.tmp 51) (.tmp 56) 26 29 i1 z1 4 (by rfl) Tryz.underlying26 K1.out K2.out K4.out K5.out K3.out base (.slice p3 ct.length c3) w6.heap.size (by rfl) (by rfl) (by rw [← h3]; exact k57.e3) [.int .u32 t.ctrl] (fun _ _ => rfl) (fun _ _ _ _ _ h => h) (fun j u hj => (kN.cell j).trans (by simpa using hj)) l3 (by decide) (Nat.le_trans hbs (Nat.le_trans O6.size B7.size)) ?_; intro q3 d3 w8 hO3 hg3 hv3)
  rw [← h3] at hg3 hv3
  have k58 := k57.app3 hg3 hO3 hv3
  have kB8 := Blk.grown (kB6.keep B7) hg3 (fun e => by have := (k57.lt (i := 3) (by decide) e.symm).1; omega)
  obtain ⟨y0, y1, y2, y3, y4⟩ := RB.rows kB8
  have f3 := Blk.frozen kB8 3
  refine ⟨.inl trivial, ?_⟩
  refine wpMixL_stage_late ?_
  simp only [Act.put, List.setIfInBounds_toArray, List.set]
  repeat (go_big_quiet_step (fail))
  refine wpQuiet_nil ?_
  go_wp2
  obtain ⟨O9, S9⟩ := app_only (b := b) (i := 3) (r0 := r) (r := updV (updV (updV r 0 (.slice p6 (evs.length + 1) c6)) 1 (.slice q1 (ad.length + 1) d1)) 2 (.slice q2 (da.length + 1) d2)) (v := .slice q3 (ct.length + 1) d3) (by decide) O6 S6 B7 hg3 hv3
  have kB9 := RB.set3 kB8 (.slice q3 (ct.length + 1) d3)
  have k59 := k58.set (i := 3) hb (.slice q3 (ct.length + 1) d3)
  obtain ⟨w9, hw9⟩ : ∃ w9, w9 = w8.setCell ⟨b, 3, none⟩ (.slice q3 (ct.length + 1) d3) := ⟨_, rfl⟩
  rw [← hw9] at O9 kB9 k59 ⊢
  clear hw9 O6 S6 kB6 k56 k57 k58 kB8 B7 kN hg3 hv3 hO3 f3 y0 y1 y2 y3 y4 x0 x1 x2 x3 x4 x20 lB
  refine ⟨.inl trivial, ?_⟩
  refine wpMixL_last ?_
  refine wpQuiet_nil ?_
  obtain ⟨x0, x1, x2, x3, x4⟩ := kB9.rows
  have lB := kB9.lt
  have F1 := trivial
  go_wp2_with (first
    | (at_builtin; clear F1; have B4 := below_new (w9) (.cells #[.int .i64 q] 3); have kN4 : Blk ((w9).alloc (.cells #[.int .i64 q] 3)) w9.heap.size #[.int .i64 q] 3 := Blk.newAt (by simp); have k5a4 := (k59).keep B4; refine wpList_push (R := IntE) (xs := pa) (x := q) (by rfl) (.tmp 66) (.tmp 68) 27 3 i2 z2 8 (by rfl) Tryz.underlying27 M1.out M2.out M4.out M5.out M3.out base (.slice p4 pa.length c4) w9.heap.size (by rfl) (by rfl) (by rw [← h4]; exact k5a4.e4) [.int .i64 q] (fun _ _ => rfl) (fun _ _ _ _ _ h => h) (fun j u hj => (kN4.cell j).trans (by simpa using hj)) l4 (by decide) (Nat.le_trans (Nat.le_trans hbs (Only.size O9)) B4.size) ?_; intro q4 d4 wa4 hO4 hg4 hv4; rw [← h4] at hg4 hv4; have k5b4 := k5a4.app4 hg4 hO4 hv4; have kBb4 := Blk.grown ((kB9).keep B4) hg4 (fun e => by have := (k5a4.lt (i := 4) (by decide) e.symm).1; omega); have g4 := Blk.frozen kBb4 4; obtain ⟨u40, u41, u42, u43, u44⟩ := RB.rows kBb4; have F2 := trivial))
  obtain ⟨OO, SS⟩ := app_only (b := b) (i := 4) (r0 := r) (r := updV (updV (updV (updV r 0 (.slice p6 (evs.length + 1) c6)) 1 (.slice q1 (ad.length + 1) d1)) 2 (.slice q2 (da.length + 1) d2)) 3 (.slice q3 (ct.length + 1) d3)) (v := .slice q4 (pa.length + 1) d4) (by decide) O9 S9 B4 hg4 hv4
  go_returns
  exact ⟨rfl, _, RB.set4 kBb4 _, k5b4.set (i := 4) hb _, OO, SS⟩
end Go.Proofs.YtcalinfdckklfaaGreatDoor

namespace Go.Proofs.YtcalinfdckklfaaGreatDoor
open Go.RowKit
attribute [local go_sem] Ext.cell Ext.frozen

structure LenOk (s : St) : Prop where
  ev : s.evs.length ≤ 1000000
  ad : s.ad.length = s.evs.length
  da : s.da.length = s.evs.length
  ct : s.ct.length = s.evs.length
  pa : s.pa.length = s.evs.length

theorem add_run (e : Ev) (a d q : Int) {w : World} {b base : Nat} {locs : Int} {vv lv : Value} {r : Nat → Value} {s : St} (h : RunAt w b base locs vv lv r s) (hl : LenOk s) :
    Calls Tryz.prog 122 #[.pointer (some ⟨b, 0, none⟩), .agg #[.int .i64 e.th, .int .i64 e.kd, .int .i64 e.lc, .int .i64 e.vl, .bool e.aq, .bool e.rl, .bool e.ex], .int .u32 a, .int .u32 d, .int .i64 q] w fun x w' =>
      x = .returned (.tuple #[]) ∧ Post b base locs vv lv r w (s.add e a d q) w' := by
  refine (add_any e a d q b base r s.evs s.ad s.da s.ct s.pa _ w h.blk h.five h.lt h.bs hl.ev (by rw [hl.ad]; exact hl.ev) (by rw [hl.da]; exact hl.ev) (by rw [hl.ct]; exact hl.ev) (by rw [hl.pa]; exact hl.ev)).mono ?_
  rintro x w' ⟨hx, r', h1, h2, h3, h4⟩
  exact ⟨hx, r', ⟨h1, h2, h.lt, Nat.le_trans h.bs h3.size⟩, h3, h4⟩

set_option maxHeartbeats 4000000 in
theorem write_run (x : Ins) (q : Int) {w : World} {b base : Nat} {locs : Int} {vv lv : Value} {r : Nat → Value} {s : St} (T : Tab w) (h : RunAt w b base locs vv lv r s) (hl : LenOk s) (hL : locs < 9223372036854775808) :
    Calls Tryz.prog 124 #[.pointer (some ⟨b, 0, none⟩), .agg #[.int .i64 x.op, .int .i64 x.d, .int .i64 x.a, .int .i64 x.b, .int .i64 x.l, .int .i64 x.i], .int .i64 q] w fun y w' =>
      y = .returned (.tuple #[]) ∧ Post b base locs vv lv r w (s.write locs x q) w' := by
  have hGet := fun n w => Get_any s.v s.d n w
  have hPl := fun w T => Place_any s.v s.d x.op x.d x.a x.b x.l x.i locs w T hL
  unfold fileV at hGet hPl
  have HGet : Hid _ := hGet
  have HPl : Hid _ := hPl
  clear hGet hPl
  have hne : ∀ w, Nonempty (Ext w) := ext_some
  go_enter Tryz.func124, Tryz.ntmps124
  go_wp2
  obtain ⟨w1, hw1, B1, kI⟩ : ∃ w1, w1 = w.alloc (.cells #[.int .i64 x.op, .int .i64 x.d, .int .i64 x.a, .int .i64 x.b, .int .i64 x.l, .int .i64 x.i] 72) ∧ Below w.heap.size w w1 ∧ InsB w1 w.heap.size x.op x.d x.a x.b x.l x.i :=
    ⟨_, rfl, below_new _ _, Blk.new⟩
  rw [← hw1]
  clear hw1
  have h1 := h.keep B1
  have T1 := T.below B1
  obtain ⟨y0, y1, y2, y3, y4, y5⟩ := kI.cells
  have lI := kI.lt
  have lB := h1.blk.lt
  obtain ⟨⟨r0, r1, r2, r3⟩, r4, r5, r6, r7⟩ := h1.blk.regs
  simp only [St.tail] at r0 r1 r2 r3 r4 r5 r6 r7
  refine wp_region_ext (by kernel_rfl) (by kernel_rfl) ?_
  repeat (go_big_quiet_step ((go_at_call 126; exact calls_ext (HGet.out _ _))))
  refine wpQuiet_nil ?_
  rintro _ ⟨p, rfl⟩
  have B2 : Below w.heap.size w p.wd := Below.thru B1 p.ok (Nat.le_refl _)
  have kI2 := kI.keep p.ok
  obtain ⟨w2, hw2⟩ : ∃ w2, w2 = p.wd := ⟨_, rfl⟩
  rw [← hw2] at B2 kI2 ⊢
  clear hw2 y0 y1 y2 y3 y4 y5 r0 r1 r2 r3 r4 r5 r6 r7 lI lB kI h1 T1 B1 p w1
  have h2 := h.keep B2
  have T2 := T.below B2
  obtain ⟨y0, y1, y2, y3, y4, y5⟩ := kI2.cells
  have lI := kI2.lt
  have lB := h2.blk.lt
  obtain ⟨⟨r0, r1, r2, r3⟩, r4, r5, r6, r7⟩ := h2.blk.regs
  obtain ⟨⟨-, -, -, m3⟩, -⟩ := h2.blk.more
  simp only [St.tail] at r0 r1 r2 r3 r4 r5 r6 r7 m3
  go_wp2
  refine wp_region_ext (by kernel_rfl) (by kernel_rfl) ?_
  repeat (go_big_quiet_step ((go_at_call 121; exact calls_ext (HPl.out _ (T2.below (Ext.ok _))))))
  refine wpQuiet_nil ?_
  rintro _ ⟨p, rfl⟩
  have B3 : Below w.heap.size w p.wd := Below.thru B2 p.ok (Nat.le_refl _)
  have kI3 := kI2.keep p.ok
  obtain ⟨w3, hw3⟩ : ∃ w3, w3 = p.wd := ⟨_, rfl⟩
  rw [← hw3] at B3 kI3 ⊢
  clear hw3 y0 y1 y2 y3 y4 y5 r0 r1 r2 r3 r4 r5 r6 r7 m3 lI lB kI2 h2 T2 B2 p w2
  obtain ⟨y0, y1, y2, y3, y4, y5⟩ := kI3.cells
  have lI := kI3.lt
  have B4 : Below w.heap.size w (w3.alloc (.cells #[.int .i64 0, .int .i64 2, .int .i64 (placeZ s.v x.op x.a x.l locs), .int .i64 (atR s.v x.b), .bool false, .bool (x.op == 8), .bool (x.op == 10)] 52)) := Below.thru B3 (below_new _ _) (Nat.le_refl _)
  have HAdd : Hid (Calls _ _ _ _ _) := add_run (wrEv locs x s) (placeD s.d x.op x.a locs) (atR s.d x.b) q (h.keep B4) hl
  go_wp2_with fail
  refine HAdd.out.mono ?_
  rintro e w5 ⟨rfl, hp⟩
  go_wp2
  go_returns
  exact ⟨rfl, Post.ahead B4 hp⟩

theorem lc_at {s : St} {k : Nat} (hk : k < s.evs.length) : s.lcAt (k : Nat) = s.evs[k].lc := by
  unfold St.lcAt
  simp [hk]

set_option maxHeartbeats 4000000 in
theorem reaches_run (x : Ins) (q : Int) {w : World} {b base : Nat} {locs : Int} {vv lv : Value} {r : Nat → Value} {s : St} (T : Tab w) (h : RunAt w b base locs vv lv r s) (hL : locs < 9223372036854775808) (hq : -1 ≤ q ∧ q < s.evs.length) :
    Calls Tryz.prog 125 #[.pointer (some ⟨b, 0, none⟩), .agg #[.int .i64 x.op, .int .i64 x.d, .int .i64 x.a, .int .i64 x.b, .int .i64 x.l, .int .i64 x.i], .int .i64 q] w fun y w' =>
      y = .returned (.bool (!(q == -1) && (s.lcAt q == placeZ s.v x.op x.a x.l locs))) ∧ Below w.heap.size w w' := by
  by_cases hq1 : q = -1
  · subst hq1
    go_enter Tryz.func125, Tryz.ntmps125
    go_wp2
    go_returns
    exact ⟨rfl, by go_grown⟩
  obtain ⟨k, rfl⟩ : ∃ k : Nat, q = (k : Int) := ⟨q.toNat, by omega⟩
  have hk : k < s.evs.length := by omega
  have hqb : (((k : Int)) == -1) = false := by simp
  rw [lc_at hk, show (!((k : Int) == -1) && (s.evs[k].lc == placeZ s.v x.op x.a x.l locs)) = (s.evs[k].lc == placeZ s.v x.op x.a x.l locs) by rw [hqb]; rfl]
  clear hq hq1
  have hPl := fun w T => Place_any s.v s.d x.op x.d x.a x.b x.l x.i locs w T hL
  unfold fileV at hPl
  have HPl : Hid _ := hPl
  clear hPl
  have hne : ∀ w, Nonempty (Ext w) := ext_some
  go_enter Tryz.func125, Tryz.ntmps125
  go_wp2
  obtain ⟨w1, hw1, B1, kI⟩ : ∃ w1, w1 = w.alloc (.cells #[.int .i64 x.op, .int .i64 x.d, .int .i64 x.a, .int .i64 x.b, .int .i64 x.l, .int .i64 x.i] 72) ∧ Below w.heap.size w w1 ∧ InsB w1 w.heap.size x.op x.d x.a x.b x.l x.i :=
    ⟨_, rfl, below_new _ _, Blk.new⟩
  rw [← hw1]
  clear hw1
  have h1 := h.keep B1
  have T1 := T.below B1
  obtain ⟨y0, y1, y2, y3, y4, y5⟩ := kI.cells
  have lI := kI.lt
  have lB := h1.blk.lt
  obtain ⟨⟨r0, r1, r2, r3⟩, r4, r5, r6, r7⟩ := h1.blk.regs
  obtain ⟨⟨-, -, -, m3⟩, -⟩ := h1.blk.more
  simp only [St.tail] at r0 r1 r2 r3 r4 r5 r6 r7 m3
  refine wp_region_ext (by kernel_rfl) (by kernel_rfl) ?_
  repeat (go_big_quiet_step ((go_at_call 121; exact calls_ext (HPl.out _ (T1.below (Ext.ok _))))))
  refine wpQuiet_nil ?_
  rintro _ ⟨p, rfl⟩
  have B2 : Below w.heap.size w p.wd := Below.thru B1 p.ok (Nat.le_refl _)
  obtain ⟨w2, hw2⟩ : ∃ w2, w2 = p.wd := ⟨_, rfl⟩
  rw [← hw2] at B2 ⊢
  clear hw2 y0 y1 y2 y3 y4 y5 r0 r1 r2 r3 r4 r5 r6 r7 m3 lI lB kI h1 T1 B1 p w1
  have h2 := h.keep B2
  obtain ⟨x0, -, -, -, -⟩ := h2.blk.rows
  obtain ⟨p0, c0, e0⟩ := h2.five.e0.len
  have hs := h2.five.e0.sl
  rw [e0] at x0 hs
  obtain ⟨g, o, rfl, -, -, g2, -⟩ := (ev_at hs).2 k hk
  clear hs e0 h2
  have lB := cell_lt x0
  have lG := cell_lt g2
  go_wp2
  go_returns
  exact ⟨rfl, B2⟩
end Go.Proofs.YtcalinfdckklfaaGreatDoor

namespace Go.Proofs.YtcalinfdckklfaaGreatDoor
open Go.RowKit
attribute [local go_sem] Ext.cell Ext.frozen

section
variable {w : World} {b base : Nat} {locs : Int} {vv lv : Value} {r : Nat → Value} {s : St}
theorem RunAt.setMore (h : RunAt w b base locs vv lv r s) (n : Int) : RunAt (w.setCell ⟨b, 15, none⟩ (.int .i64 n)) b base locs vv lv r { s with more := n } :=
  ⟨h.blk.setMore n, h.five.set h.lt _, h.lt, by simpa [World.setCell] using h.bs⟩
theorem RunAt.setVals (h : RunAt w b base locs vv lv r s) {n : Int} {k : Nat} (hn : n = (k : Int)) : RunAt (w.setCell ⟨b, 13, none⟩ (.int .i64 n)) b base locs vv lv r { s with vals := k } := by
  subst hn; exact ⟨h.blk.setVals k, h.five.set h.lt _, h.lt, by simpa [World.setCell] using h.bs⟩
theorem RunAt.setLucks (h : RunAt w b base locs vv lv r s) {n : Int} {k : Nat} (hn : n = (k : Int)) : RunAt (w.setCell ⟨b, 14, none⟩ (.int .i64 n)) b base locs vv lv r { s with lucks := k } := by
  subst hn; exact ⟨h.blk.setLucks k, h.five.set h.lt _, h.lt, by simpa [World.setCell] using h.bs⟩
theorem RunAt.setNext (h : RunAt w b base locs vv lv r s) {n : Int} {k : Nat} (hn : n = (k : Int)) : RunAt (w.setCell ⟨b, 19, none⟩ (.int .i64 n)) b base locs vv lv r { s with next := k } := by
  subst hn; exact ⟨h.blk.setNext k, h.five.set h.lt _, h.lt, by simpa [World.setCell] using h.bs⟩
theorem RunAt.setCtrl (h : RunAt w b base locs vv lv r s) (n : Int) : RunAt (w.setCell ⟨b, 20, none⟩ (.int .u32 n)) b base locs vv lv r { s with ctrl := n } :=
  ⟨h.blk.setCtrl n, h.five.set h.lt _, h.lt, by simpa [World.setCell] using h.bs⟩
theorem RunAt.setOpn (h : RunAt w b base locs vv lv r s) (n : Int) : RunAt (w.setCell ⟨b, 21, none⟩ (.int .i64 n)) b base locs vv lv r { s with opn := n } :=
  ⟨h.blk.setOpn n, h.five.set h.lt _, h.lt, by simpa [World.setCell] using h.bs⟩
theorem RunAt.putR (h : RunAt w b base locs vv lv r s) (v d : Nat → Int) : RunAt (putR w b v d) b base locs vv lv r { s with v := v, d := d } :=
  ⟨h.blk.putR v d, h.five.putR h.lt v d, h.lt, Nat.le_trans h.bs (only_putR (r := r)).size⟩
end

theorem pow_small {k : Nat} (h : k < 31) : (2 : Int) ^ k % 4294967296 = 2 ^ k := by
  have e : (2 : Int) ^ k = ((2 ^ k : Nat) : Int) := by simp
  have l : 2 ^ k < 2 ^ 31 := Nat.pow_lt_pow_right (by decide) h
  rw [e]
  exact Int.emod_eq_of_lt (Int.natCast_nonneg _) (Int.lt_trans (Int.ofNat_lt.2 l) (by decide))
theorem Tab.only {S : Nat → Prop} {w w' : World} (T : Tab w) (ho : Only S w w') (hS : ¬ S 0) : Tab w' := by
  have k : ∀ o, w'.cell? ⟨0, o, none⟩ = w.cell? ⟨0, o, none⟩ := fun o => World.cell?_of_block (w := w) (a := ⟨0, o, none⟩) (ho.block _ T.pos hS)
  exact ⟨Nat.lt_of_lt_of_le T.pos ho.size, fun op a b => (k _).trans (T.name op a b), fun op a b => (k _).trans (T.kind op a b), fun op a b => (k _).trans (T.fields op a b)⟩

set_option maxHeartbeats 4000000 in
theorem load_ends (x : Ins) {w : World} {b base : Nat} {locs : Int} {pv : Option Addr} {cv : Nat} {vals : List Int} {lv : Value} {r : Nat → Value} {s : St} (h : RunAt w b base locs (.slice pv vals.length cv) lv r s) (hv : s.vals = vals.length) :
    Calls Tryz.prog 93 #[.pointer (some ⟨b, 0, none⟩), .agg #[.int .i64 x.op, .int .i64 x.d, .int .i64 x.a, .int .i64 x.b, .int .i64 x.l, .int .i64 x.i]] w fun y w' =>
      y = .returned (.tuple #[]) ∧ Post b base locs (.slice pv vals.length cv) lv r w { s with more := 1 } w' := by
  have hvb : ((s.vals : Int) == (vals.length : Int)) = true := by rw [hv]; simp
  clear hv
  have hne : ∀ w, Nonempty (Ext w) := ext_some
  go_enter Tryz.func93, Tryz.ntmps93
  go_wp2
  obtain ⟨w1, hw1, B1⟩ : ∃ w1, w1 = w.alloc (.cells #[.int .i64 x.op, .int .i64 x.d, .int .i64 x.a, .int .i64 x.b, .int .i64 x.l, .int .i64 x.i] 72) ∧ Below w.heap.size w w1 := ⟨_, rfl, below_new _ _⟩
  rw [← hw1]
  clear hw1
  have h1 := h.keep B1
  have lB := h1.blk.lt
  obtain ⟨⟨m0, -, -, -⟩, m4, -⟩ := h1.blk.more
  simp only [St.tail] at m0 m4
  refine wp_region_ext (by kernel_rfl) (by kernel_rfl) ?_
  repeat (go_big_quiet_step (fail))
  refine wpQuiet_nil ?_
  rintro _ ⟨p, rfl⟩
  have B2 : Below w.heap.size w p.wd := Below.thru B1 p.ok (Nat.le_refl _)
  have h2 := h.keep B2
  obtain ⟨⟨-, -, k2, -⟩, -⟩ := h2.blk.more
  have f2 := h2.blk.frozen 15
  simp only [St.tail] at k2
  go_wp2
  go_returns
  exact ⟨rfl, r, h2.setMore 1, (Below.only B2).trans only_set (fun _ h => .inl h), fun _ h => .inl h⟩

set_option maxHeartbeats 8000000 in
theorem load_takes (x : Ins) {w : World} {b base : Nat} {locs : Int} {pv : Option Addr} {cv : Nat} {vals : List Int} {lv : Value} {r : Nat → Value} {s : St} (T : Tab w) (hT : ¬ b ≤ 0) (h : RunAt w b base locs (.slice pv vals.length cv) lv r s) (hl : LenOk s) (h31 : s.evs.length < 31) (hL : locs < 9223372036854775808)
    (hsl : SlA (fun k => k < b) IntE w (.slice pv vals.length cv) vals) (hv : s.vals < vals.length) (hn : vals.length ≤ 1000000) :
    Calls Tryz.prog 93 #[.pointer (some ⟨b, 0, none⟩), .agg #[.int .i64 x.op, .int .i64 x.d, .int .i64 x.a, .int .i64 x.b, .int .i64 x.l, .int .i64 x.i]] w fun y w' =>
      y = .returned (.tuple #[]) ∧ Post b base locs (.slice pv vals.length cv) lv r w (s.load locs (vals.getD s.vals 0) x) w' := by
  have hvb : ((s.vals : Int) == (vals.length : Int)) = false := by simp; omega
  obtain ⟨z, hz⟩ : ∃ z, vals.getD s.vals 0 = z := ⟨_, rfl⟩
  have hz' : vals[s.vals] = z := by rw [← hz]; simp [hv]
  rw [hz]
  have hwr : wrap64 ((s.vals : Int) + 1) = ((s.vals + 1 : Nat) : Int) := wrap_is (by omega) (by omega)
  clear hz
  have hp2 : (2 : Int) ^ s.evs.length % 4294967296 = 2 ^ s.evs.length := pow_small h31
  have hPl := fun w T => Place_any s.v s.d x.op x.d x.a x.b x.l x.i locs w T hL
  have hSet := fun n y1 y2 w => Set_any s.v s.d n y1 y2 w
  unfold fileV at hPl hSet
  have HPl : Hid _ := hPl
  have HSet : Hid _ := hSet
  clear hPl hSet
  have hne : ∀ w, Nonempty (Ext w) := ext_some
  have hne2 : Nonempty AnyW := anyW_some
  go_enter Tryz.func93, Tryz.ntmps93
  go_wp2
  obtain ⟨w1, hw1, B1, kI⟩ : ∃ w1, w1 = w.alloc (.cells #[.int .i64 x.op, .int .i64 x.d, .int .i64 x.a, .int .i64 x.b, .int .i64 x.l, .int .i64 x.i] 72) ∧ Below w.heap.size w w1 ∧ InsB w1 w.heap.size x.op x.d x.a x.b x.l x.i :=
    ⟨_, rfl, below_new _ _, Blk.new⟩
  rw [← hw1]
  clear hw1
  have h1 := h.keep B1
  have lB := h1.blk.lt
  obtain ⟨⟨m0, -, -, -⟩, m4, -⟩ := h1.blk.more
  simp only [St.tail] at m0 m4
  refine wp_region_ext (by kernel_rfl) (by kernel_rfl) ?_
  repeat (go_big_quiet_step (fail))
  refine wpQuiet_nil ?_
  rintro _ ⟨p, rfl⟩
  have B2 : Below w.heap.size w p.wd := Below.thru B1 p.ok (Nat.le_refl _)
  have kI2 := kI.keep p.ok
  obtain ⟨w2, hw2⟩ : ∃ w2, w2 = p.wd := ⟨_, rfl⟩
  rw [← hw2] at B2 kI2 ⊢
  clear hw2 m0 m4 lB h1 kI B1 p w1
  have h2 := h.keep B2
  have lB := h2.blk.lt
  obtain ⟨⟨m0, -, -, -⟩, m4, -⟩ := h2.blk.more
  simp only [St.tail] at m0 m4
  obtain ⟨g, o, rfl, gz⟩ := (ints_at (hsl.keep B2)).2 s.vals hv
  rw [hz'] at gz
  have lG := cell_lt gz
  go_wp2
  refine wp_region_ext (by kernel_rfl) (by kernel_rfl) ?_
  repeat (go_big_quiet_step (fail))
  refine wpQuiet_nil ?_
  rintro _ ⟨p, rfl⟩
  have B3 : Below w.heap.size w p.wd := Below.thru B2 p.ok (Nat.le_refl _)
  have kI3 := kI2.keep p.ok
  obtain ⟨w3, hw3⟩ : ∃ w3, w3 = p.wd := ⟨_, rfl⟩
  rw [← hw3] at B3 kI3 ⊢
  clear hw3 m0 m4 lB lG gz h2 kI2 B2 p w2
  have h3 := h.keep B3
  have lB := h3.blk.lt
  obtain ⟨⟨m0, -, -, -⟩, -⟩ := h3.blk.more
  have f0 := h3.blk.frozen 13
  obtain ⟨x0, -⟩ := h3.blk.rows
  obtain ⟨p0, c0, e0⟩ := h3.five.e0.len
  rw [e0] at x0
  simp only [St.tail] at m0
  obtain ⟨y0, y1, y2, y3, y4, y5⟩ := kI3.cells
  go_wp2
  have hnI : ¬ RS b r w.heap.size := fun hk => by have := (h.rs hk).2; omega
  have h4 := h3.setVals (n := (s.vals : Int) + 1) (k := s.vals + 1) rfl
  have O4 : Only (RS b r) w (w3.setCell ⟨b, 13, none⟩ (.int .i64 ((s.vals : Int) + 1))) := (Below.only B3).trans only_set (fun _ h => .inl h)
  have kI4 : InsB (w3.setCell ⟨b, 13, none⟩ (.int .i64 ((s.vals : Int) + 1))) w.heap.size x.op x.d x.a x.b x.l x.i := Blk.only kI3 (only_set (r := r)) hnI
  have T4 : Tab (w3.setCell ⟨b, 13, none⟩ (.int .i64 ((s.vals : Int) + 1))) := (T.below B3).only only_set fun hk => hT (h.rs hk).1
  obtain ⟨w4, hw4⟩ : ∃ w4, w4 = w3.setCell ⟨b, 13, none⟩ (.int .i64 ((s.vals : Int) + 1)) := ⟨_, rfl⟩
  rw [← hw4] at h4 O4 kI4 T4 ⊢
  clear hw4 m0 f0 x0 e0 y0 y1 y2 y3 y4 y5 lB h3 kI3 B3 w3 hvb hwr
  obtain ⟨y0, y1, y2, y3, y4, y5⟩ := kI4.cells
  have lI := kI4.lt
  have lB := h4.blk.lt
  obtain ⟨⟨r0, r1, r2, r3⟩, r4, r5, r6, r7⟩ := h4.blk.regs
  obtain ⟨⟨-, -, -, m3⟩, -⟩ := h4.blk.more
  simp only [St.tail] at r0 r1 r2 r3 r4 r5 r6 r7 m3
  refine wp_region_ext (by kernel_rfl) (by kernel_rfl) ?_
  repeat (go_big_quiet_step ((go_at_call 121; exact calls_ext (HPl.out _ (T4.below (Ext.ok _))))))
  refine wpQuiet_nil ?_
  rintro _ ⟨p, rfl⟩
  have h5 := h4.keep p.ok
  have O5 : Only (RS b r) w p.wd := O4.trans (Below.only p.ok) (fun _ h => .inl h)
  have kI5 := kI4.keep p.ok
  have T5 := T4.below p.ok
  obtain ⟨w5, hw5⟩ : ∃ w5, w5 = p.wd := ⟨_, rfl⟩
  rw [← hw5] at h5 O5 kI5 T5 ⊢
  clear hw5 y0 y1 y2 y3 y4 y5 r0 r1 r2 r3 r4 r5 r6 r7 m3 lI lB kI4 h4 T4 O4 p w4
  obtain ⟨y0, y1, y2, y3, y4, y5⟩ := kI5.cells
  have lI := kI5.lt
  have HAdd : Hid (Calls _ _ _ _ _) := add_run (rdEv locs z x s) (placeD s.d x.op x.a locs) 0 (-1) h5 ⟨hl.ev, hl.ad, hl.da, hl.ct, hl.pa⟩
  go_wp2_with (go_at_call 122; refine HAdd.out.mono ?_; rintro e w6 ⟨rfl, hp⟩)
  obtain ⟨r6, h6, O6', S6⟩ := hp
  have O6 : Only (RS b r) w w6 := O5.trans O6' (fun _ h => .inl h)
  have S6' : ∀ k, RS b r6 k → RS b r k ∨ w.heap.size ≤ k := fun k hk => by rcases S6 k hk with h | h; exact .inl h; exact .inr (Nat.le_trans O5.size h)
  have kI6 : InsB w6 w.heap.size x.op x.d x.a x.b x.l x.i := Blk.only kI5 O6' hnI
  have T6 : Tab w6 := T5.only O6' fun hk => hT (h.rs hk).1
  clear y0 y1 y2 y3 y4 y5 lI kI5 T5 h5 O5 O6' S6 HAdd HPl w5
  obtain ⟨y0, y1, y2, y3, y4, y5⟩ := kI6.cells
  have lI := kI6.lt
  have lB := h6.blk.lt
  obtain ⟨⟨r0, r1, r2, r3⟩, r4, r5, r6', r7⟩ := h6.blk.regs
  simp only [St.tail, St.add] at r0 r1 r2 r3 r4 r5 r6' r7
  refine wp_region_mixL [([0, 1, 2, 3, 4, 5, 6, 7, 8, 9, 10], 11, false), ([12, 13, 14], 15, true)] [] [15] (by kernel_rfl) (by kernel_rfl) (fun _ _ d _ _ h => by cases d <;> exact h) ?_
  dsimp only [mapL, List.map, opAt]
  refine wpMixL_stage ?_
  repeat (go_big_quiet_step (fail))
  refine wpQuiet_nil ?_
  go_wp2_with (go_at_call 123; refine (HSet.out _ _ _ _).mono ?_; rintro e w7 ⟨rfl, hb7⟩)
  have B7 : Below w6.heap.size w6 w7 := Below.thru (Below.drew (Below.refl _ _)) hb7 (Nat.le_refl _)
  refine ⟨.inr B7, ?_⟩
  refine wpMixL_stage ?_
  repeat (go_big_quiet_step (fail))
  refine wpQuiet_nil ?_
  have h7 := h6.keep B7
  obtain ⟨⟨t0, t1, t2, t3⟩, t4, t5, t6, t7⟩ := h7.blk.regs
  have u0 := h7.blk.frozen 5
  have u1 := h7.blk.frozen 6
  have u2 := h7.blk.frozen 7
  have u3 := h7.blk.frozen 8
  have u4 := h7.blk.frozen 9
  have u5 := h7.blk.frozen 10
  have u6 := h7.blk.frozen 11
  have u7 := h7.blk.frozen 12
  go_wp2
  have h8 := h7.putR (upd s.v x.d z) (upd s.d x.d (2 ^ s.evs.length))
  have O8 : Only (RS b r) w (putR w7 b (upd s.v x.d z) (upd s.d x.d (2 ^ s.evs.length))) := O6.trans ((Below.only B7 : Only (RS b r6) w6 w7).trans only_putR fun _ h => .inl h) S6'
  obtain ⟨w8, hw8⟩ : ∃ w8, w8 = putR w7 b (upd s.v x.d z) (upd s.d x.d (2 ^ s.evs.length)) := ⟨_, rfl⟩
  rw [← hw8] at h8 O8
  unfold putR at hw8
  rw [← hw8]
  clear hw8 t0 t1 t2 t3 t4 t5 t6 t7 u0 u1 u2 u3 u4 u5 u6 u7 r0 r1 r2 r3 r4 r5 r6' r7 y0 y1 y2 y3 y4 y5 lI lB h7 h6 B7 hb7 O6 kI6 T6
  refine ⟨.inl trivial, ?_⟩
  refine wpMixL_last ?_
  refine wpQuiet_nil ?_
  by_cases h9 : x.op = 9
  · have hb9 : (x.op == 9) = true := by rw [h9]; rfl
    have lB := h8.blk.lt
    have f8 := h8.blk.frozen 21
    obtain ⟨-, -, -, -, -, m8⟩ := h8.blk.more
    have E : Hid (s.load locs z x = { ((({ s with vals := s.vals + 1 } : St).add (rdEv locs z x s) (placeD s.d x.op x.a locs) 0 (-1)).set x.d z (2 ^ s.evs.length)) with opn := (s.evs.length : Nat) }) := if_pos h9
    clear h9
    go_wp2
    go_returns
    refine ⟨rfl, r6, ?_, O8.trans only_set S6', S6'⟩
    rw [E.out]
    exact h8.setOpn _
  · have hb9 : (x.op == 9) = false := by simpa using h9
    have E : Hid (s.load locs z x = ((({ s with vals := s.vals + 1 } : St).add (rdEv locs z x s) (placeD s.d x.op x.a locs) 0 (-1)).set x.d z (2 ^ s.evs.length))) := if_neg h9
    clear h9
    go_wp2
    go_returns
    refine ⟨rfl, r6, ?_, O8, S6'⟩
    rw [E.out]
    exact h8
end Go.Proofs.YtcalinfdckklfaaGreatDoor

namespace Go.Proofs.YtcalinfdckklfaaGreatDoor
open Go.RowKit
attribute [local go_sem] Ext.cell Ext.frozen

/-- The kinds of barriers lie in their block. -/
def Bar (w : World) : Prop := w.cell? ⟨1, 0, none⟩ = some (.int .i64 3) ∧ w.cell? ⟨1, 1, none⟩ = some (.int .i64 4) ∧ w.cell? ⟨1, 2, none⟩ = some (.int .i64 5)
theorem Bar.below {w w' : World} (h : Bar w) (hb : Below w.heap.size w w') : Bar w' := ⟨cell_keep h.1 hb, cell_keep h.2.1 hb, cell_keep h.2.2 hb⟩

set_option maxHeartbeats 4000000 in
theorem store_run (x : Ins) {w : World} {b base : Nat} {locs : Int} {vv lv : Value} {r : Nat → Value} {s : St} (T : Tab w) (h : RunAt w b base locs vv lv r s) (hl : LenOk s) (hL : locs < 9223372036854775808) :
    Calls Tryz.prog 94 #[.pointer (some ⟨b, 0, none⟩), .agg #[.int .i64 x.op, .int .i64 x.d, .int .i64 x.a, .int .i64 x.b, .int .i64 x.l, .int .i64 x.i]] w fun y w' =>
      y = .returned (.tuple #[]) ∧ Post b base locs vv lv r w (s.write locs x (-1)) w' := by
  have B1 := below_new w (.cells #[.int .i64 x.op, .int .i64 x.d, .int .i64 x.a, .int .i64 x.b, .int .i64 x.l, .int .i64 x.i] 72)
  have HW : Hid (Calls _ _ _ _ _) := write_run x (-1) (T.below B1) (h.keep B1) hl hL
  go_enter Tryz.func94, Tryz.ntmps94
  go_wp2_with (go_at_call 124; refine HW.out.mono ?_; rintro e w2 ⟨rfl, hp⟩)
  go_returns
  exact ⟨rfl, Post.ahead B1 hp⟩

set_option maxHeartbeats 4000000 in
theorem isb_run (x : Ins) {w : World} {b base : Nat} {locs : Int} {vv lv : Value} {r : Nat → Value} {s : St} (h : RunAt w b base locs vv lv r s) (hl : LenOk s) :
    Calls Tryz.prog 97 #[.pointer (some ⟨b, 0, none⟩), .agg #[.int .i64 x.op, .int .i64 x.d, .int .i64 x.a, .int .i64 x.b, .int .i64 x.l, .int .i64 x.i]] w fun y w' =>
      y = .returned (.tuple #[]) ∧ Post b base locs vv lv r w (s.add (brEv 6) 0 0 (-1)) w' := by
  have B1 := below_new w (.cells #[.int .i64 x.op, .int .i64 x.d, .int .i64 x.a, .int .i64 x.b, .int .i64 x.l, .int .i64 x.i] 72)
  have HW : Hid (Calls _ _ _ _ _) := add_run (brEv 6) 0 0 (-1) (h.keep B1) hl
  go_enter Tryz.func97, Tryz.ntmps97
  go_wp2_with (go_at_call 122; refine HW.out.mono ?_; rintro e w2 ⟨rfl, hp⟩)
  go_returns
  exact ⟨rfl, Post.ahead B1 hp⟩

set_option maxHeartbeats 4000000 in
theorem dmb_run (x : Ins) {w : World} {b base : Nat} {locs : Int} {vv lv : Value} {r : Nat → Value} {s : St} (T : Bar w) (h : RunAt w b base locs vv lv r s) (hl : LenOk s) (hi : 0 ≤ x.i ∧ x.i ≤ 2) :
    Calls Tryz.prog 96 #[.pointer (some ⟨b, 0, none⟩), .agg #[.int .i64 x.op, .int .i64 x.d, .int .i64 x.a, .int .i64 x.b, .int .i64 x.l, .int .i64 x.i]] w fun y w' =>
      y = .returned (.tuple #[]) ∧ Post b base locs vv lv r w (s.add (brEv (3 + x.i)) 0 0 (-1)) w' := by
  have B1 := below_new w (.cells #[.int .i64 x.op, .int .i64 x.d, .int .i64 x.a, .int .i64 x.b, .int .i64 x.l, .int .i64 x.i] 72)
  have HW : Hid (Calls _ _ _ _ _) := add_run (brEv (3 + x.i)) 0 0 (-1) (h.keep B1) hl
  obtain ⟨t0, t1, t2⟩ := T
  have lt0 := cell_lt t0
  have hi3 : x.i = 0 ∨ x.i = 1 ∨ x.i = 2 := by omega
  clear hi
  rcases hi3 with hi | hi | hi
  all_goals
    rw [hi] at HW B1
    go_enter Tryz.func96, Tryz.ntmps96
    go_wp2_with (go_at_call 122; refine HW.out.mono ?_; rintro e w2 ⟨rfl, hp⟩)
    go_returns
    refine ⟨rfl, ?_⟩
    rw [hi]
    exact Post.ahead B1 hp

set_option maxHeartbeats 4000000 in
theorem branch_run (x : Ins) {w : World} {b base : Nat} {locs : Int} {vv lv : Value} {r : Nat → Value} {s : St} (h : RunAt w b base locs vv lv r s) (hi : 0 ≤ x.i ∧ x.i ≤ 1000) (hn : s.next ≤ 1000) :
    Calls Tryz.prog 98 #[.pointer (some ⟨b, 0, none⟩), .agg #[.int .i64 x.op, .int .i64 x.d, .int .i64 x.a, .int .i64 x.b, .int .i64 x.l, .int .i64 x.i]] w fun y w' =>
      y = .returned (.tuple #[]) ∧ Post b base locs vv lv r w (s.branch x) w' := by
  have hwr : wrap64 ((s.next : Int) + x.i) = (s.next : Int) + x.i := wrap_is (by omega) (by omega)
  have hnx : (s.next : Int) + x.i = ((s.next + x.i.toNat : Nat) : Int) := by omega
  have HNX : Hid _ := hnx
  clear hnx
  have hGet := fun n w => Get_any s.v s.d n w
  unfold fileV at hGet
  have HGet : Hid _ := hGet
  clear hGet
  have hne : ∀ w, Nonempty (Ext w) := ext_some
  have hne2 : Nonempty AnyW := anyW_some
  go_enter Tryz.func98, Tryz.ntmps98
  go_wp2
  obtain ⟨w1, hw1, B1, kI⟩ : ∃ w1, w1 = w.alloc (.cells #[.int .i64 x.op, .int .i64 x.d, .int .i64 x.a, .int .i64 x.b, .int .i64 x.l, .int .i64 x.i] 72) ∧ Below w.heap.size w w1 ∧ InsB w1 w.heap.size x.op x.d x.a x.b x.l x.i :=
    ⟨_, rfl, below_new _ _, Blk.new⟩
  rw [← hw1]
  clear hw1
  have h1 := h.keep B1
  obtain ⟨y0, y1, y2, y3, y4, y5⟩ := kI.cells
  have lI := kI.lt
  have lB := h1.blk.lt
  obtain ⟨⟨r0, r1, r2, r3⟩, r4, r5, r6, r7⟩ := h1.blk.regs
  simp only [St.tail] at r0 r1 r2 r3 r4 r5 r6 r7
  refine wp_region_ext (by kernel_rfl) (by kernel_rfl) ?_
  repeat (go_big_quiet_step ((go_at_call 126; exact calls_ext (HGet.out _ _))))
  refine wpQuiet_nil ?_
  rintro _ ⟨p, rfl⟩
  have B2 : Below w.heap.size w p.wd := Below.thru B1 p.ok (Nat.le_refl _)
  have kI2 := kI.keep p.ok
  obtain ⟨w2, hw2⟩ : ∃ w2, w2 = p.wd := ⟨_, rfl⟩
  rw [← hw2] at B2 kI2 ⊢
  clear hw2 kI h1 B1 p w1 y0 y1 y2 y3 y4 y5 lI r0 r1 r2 r3 r4 r5 r6 r7 lB
  have h2 := h.keep B2
  obtain ⟨y0, y1, y2, y3, y4, y5⟩ := kI2.cells
  have lI := kI2.lt
  have lB := h2.blk.lt
  obtain ⟨-, -, -, -, m7, -⟩ := h2.blk.more
  have f7 := h2.blk.frozen 20
  simp only [St.tail] at m7
  have hnI : ¬ RS b r w.heap.size := fun hk => by have := (h.rs hk).2; omega
  have hIb : ¬ w.heap.size = b := fun e => hnI (.inl e)
  have O3 : Only (RS b r) w (w2.setCell ⟨b, 20, none⟩ (.int .u32 (bits .or .u32 s.ctrl (atR s.d x.a)))) := (Below.only B2).trans only_set (fun _ h => .inl h)
  have h3 := h2.setCtrl (bits .or .u32 s.ctrl (atR s.d x.a))
  have kI3 : InsB (w2.setCell ⟨b, 20, none⟩ (.int .u32 (bits .or .u32 s.ctrl (atR s.d x.a)))) w.heap.size x.op x.d x.a x.b x.l x.i := Blk.only kI2 (only_set (r := r)) hnI
  cases hc : ((atR s.v x.a == 0) == (x.op == 13))
  · have E : Hid (s.branch x = { s with ctrl := bits .or .u32 s.ctrl (atR s.d x.a) }) := by unfold St.branch Hid; rw [hc]; rfl
    go_wp2
    go_returns
    refine ⟨rfl, r, ?_, O3, fun _ h => .inl h⟩
    rw [E.out]
    exact h3
  · have E : Hid (s.branch x = { s with ctrl := bits .or .u32 s.ctrl (atR s.d x.a), next := s.next + x.i.toNat }) := by unfold St.branch Hid; rw [hc]; rfl
    go_wp2
    obtain ⟨w3, hw3⟩ : ∃ w3, w3 = w2.setCell ⟨b, 20, none⟩ (.int .u32 (bits .or .u32 s.ctrl (atR s.d x.a))) := ⟨_, rfl⟩
    rw [← hw3] at O3 h3 kI3 ⊢
    clear hw3 f7 m7 y0 y1 y2 y3 y4 y5 lI lB h2 kI2 B2 w2
    obtain ⟨y0, y1, y2, y3, y4, y5⟩ := kI3.cells
    have lI := kI3.lt
    have lB := h3.blk.lt
    obtain ⟨-, -, -, m6, -, -⟩ := h3.blk.more
    have f6 := h3.blk.frozen 19
    simp only [St.tail] at m6
    refine wp_region_mixL [([0, 1, 2, 3, 4, 5, 6, 7, 8], 9, true)] [] [9] (by kernel_rfl) (by kernel_rfl) (fun _ _ d _ _ h => by cases d <;> exact h) ?_
    dsimp only [mapL, List.map, opAt]
    refine wpMixL_stage ?_
    repeat (go_big_quiet_step (fail))
    refine wpQuiet_nil ?_
    have h4 : RunAt w3.drew b base locs vv lv r { s with ctrl := bits .or .u32 s.ctrl (atR s.d x.a) } := h3.keep (Below.drew (Below.refl _ _))
    go_wp2
    refine ⟨.inl trivial, ?_⟩
    refine wpMixL_last ?_
    refine wpQuiet_nil ?_
    go_wp2
    go_returns
    refine ⟨rfl, r, ?_, O3.trans ((Below.only (Below.drew (Below.refl _ _)) : Only (RS b r) w3 w3.drew).trans only_set fun _ h => .inl h) (fun _ h => .inl h), fun _ h => .inl h⟩
    rw [E.out]
    exact h4.setNext HNX.out

set_option maxHeartbeats 4000000 in
theorem reckon_run (x : Ins) {w : World} {b base : Nat} {locs : Int} {vv lv : Value} {r : Nat → Value} {s : St} (T : Tab w) (h : RunAt w b base locs vv lv r s) (h1 : 1 ≤ x.op) (h4 : x.op ≤ 4) :
    Calls Tryz.prog 99 #[.pointer (some ⟨b, 0, none⟩), .agg #[.int .i64 x.op, .int .i64 x.d, .int .i64 x.a, .int .i64 x.b, .int .i64 x.l, .int .i64 x.i]] w fun y w' =>
      y = .returned (.tuple #[]) ∧ Post b base locs vv lv r w { s with v := doV s.v x.op x.d x.a x.b x.i, d := doD s.d x.op x.d x.a x.b } w' := by
  have hDo := fun w T => Do_in s.v s.d x.op x.d x.a x.b x.l x.i w T h1 h4
  unfold fileV at hDo
  have HDo : Hid _ := hDo
  clear hDo h1 h4
  have hne : ∀ w, Nonempty (Ext w) := ext_some
  have hne2 : Nonempty AnyW := anyW_some
  go_enter Tryz.func99, Tryz.ntmps99
  go_wp2
  obtain ⟨w1, hw1, B1, kI⟩ : ∃ w1, w1 = w.alloc (.cells #[.int .i64 x.op, .int .i64 x.d, .int .i64 x.a, .int .i64 x.b, .int .i64 x.l, .int .i64 x.i] 72) ∧ Below w.heap.size w w1 ∧ InsB w1 w.heap.size x.op x.d x.a x.b x.l x.i :=
    ⟨_, rfl, below_new _ _, Blk.new⟩
  rw [← hw1]
  clear hw1
  have h1 := h.keep B1
  have T1 := T.below B1
  obtain ⟨y0, y1, y2, y3, y4, y5⟩ := kI.cells
  have lI := kI.lt
  have lB := h1.blk.lt
  obtain ⟨⟨r0, r1, r2, r3⟩, r4, r5, r6, r7⟩ := h1.blk.regs
  simp only [St.tail] at r0 r1 r2 r3 r4 r5 r6 r7
  refine wp_region_mixL [([0, 1, 2, 3, 4, 5, 6], 7, false), ([8, 9, 10], 11, true)] [] [11] (by kernel_rfl) (by kernel_rfl) (fun _ _ d _ _ h => by cases d <;> exact h) ?_
  dsimp only [mapL, List.map, opAt]
  refine wpMixL_stage ?_
  repeat (go_big_quiet_step (fail))
  refine wpQuiet_nil ?_
  go_wp2_with (go_at_call 127; refine (HDo.out _ (T1.below (Below.drew (Below.refl _ _)))).mono ?_; rintro e w7 ⟨rfl, hbw7⟩)
  have Bw7 : Below w1.heap.size w1 w7 := Below.thru (Below.drew (Below.refl _ _)) hbw7 (Nat.le_refl _)
  refine ⟨.inr Bw7, ?_⟩
  refine wpMixL_stage ?_
  repeat (go_big_quiet_step (fail))
  refine wpQuiet_nil ?_
  have hw7 := h1.keep Bw7
  obtain ⟨⟨t0, t1, t2, t3⟩, t4, t5, t6, t7⟩ := hw7.blk.regs
  have u0 := hw7.blk.frozen 5
  have u1 := hw7.blk.frozen 6
  have u2 := hw7.blk.frozen 7
  have u3 := hw7.blk.frozen 8
  have u4 := hw7.blk.frozen 9
  have u5 := hw7.blk.frozen 10
  have u6 := hw7.blk.frozen 11
  have u7 := hw7.blk.frozen 12
  go_wp2
  have hZ := hw7.putR (doV s.v x.op x.d x.a x.b x.i) (doD s.d x.op x.d x.a x.b)
  obtain ⟨wZ, hwZ⟩ : ∃ wZ, wZ = putR w7 b (doV s.v x.op x.d x.a x.b x.i) (doD s.d x.op x.d x.a x.b) := ⟨_, rfl⟩
  have OZ : Only (RS b r) w7 wZ := by rw [hwZ]; exact only_putR
  rw [← hwZ] at hZ
  unfold putR at hwZ
  rw [← hwZ]
  clear hwZ
  refine ⟨.inl trivial, ?_⟩
  refine wpMixL_last ?_
  refine wpQuiet_nil ?_
  go_wp2
  go_returns
  exact ⟨rfl, r, hZ, ((Below.only B1).trans (Below.only Bw7) fun _ h => .inl h).trans OZ (fun _ h => .inl h), fun _ h => .inl h⟩

end Go.Proofs.YtcalinfdckklfaaGreatDoor
