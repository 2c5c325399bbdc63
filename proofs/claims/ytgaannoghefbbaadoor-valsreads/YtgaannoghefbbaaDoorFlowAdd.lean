/- What add does: one event more, in five rows. -/
import Derived.Test.YtgaannoghefbbaaDoorFlowP
import Derived.Test.YtgaannoghefbbaaDoorBase
namespace Go.Proofs.YtgaannoghefbbaaDoor
open Go.RowKit
attribute [local go_sem] Ext.cell Ext.frozen

theorem infoGet {P : Program} {t : TypeId} {a b c : Nat} (h : ((P.info? t).map fun i => (i.zero.map (·.cells.size), i.size, i.bytes)) = some (some a, b, c)) : ∃ i z, P.info? t = some i ∧ i.zero = some z ∧ z.cells.size = a ∧ i.size = b ∧ i.bytes = c := by
  cases hi : P.info? t with
  | none => rw [hi] at h; simp at h
  | some i =>
    rw [hi] at h
    simp only [Option.map_some, Option.some.injEq, Prod.mk.injEq] at h
    obtain ⟨h1, h2, h3⟩ := h
    cases hz : i.zero with
    | none => rw [hz] at h1; simp at h1
    | some z => rw [hz] at h1; exact ⟨i, z, rfl, hz, by simpa using h1, h2, h3⟩
theorem infoEv : ((Tryd.prog.info? 42).map fun i => (i.zero.map (·.cells.size), i.size, i.bytes)) = some (some 7, 7, 40) := by kernel_rfl
theorem infoU32 : ((Tryd.prog.info? 35).map fun i => (i.zero.map (·.cells.size), i.size, i.bytes)) = some (some 1, 1, 4) := by kernel_rfl
theorem infoInt : ((Tryd.prog.info? 3).map fun i => (i.zero.map (·.cells.size), i.size, i.bytes)) = some (some 1, 1, 8) := by kernel_rfl

set_option maxHeartbeats 4000000 in
theorem add_any (e : Ev) (a d q : Int) (b base : Nat) (r : Nat → Value) (evs : List Ev) (ad da ct pa : List Int) (t : Tail) (w : World)
    (kB : RB w b (r 0) (r 1) (r 2) (r 3) (r 4) t) (k5 : Five w base r evs ad da ct pa) (hb : b < base) (hbs : base ≤ w.heap.size)
    (l0 : evs.length ≤ 1000000) (l1 : ad.length ≤ 1000000) (l2 : da.length ≤ 1000000) (l3 : ct.length ≤ 1000000) (l4 : pa.length ≤ 1000000) :
    Calls Tryd.prog 57 #[.pointer (some ⟨b, 0, none⟩), .agg #[.int .i64 e.th, .int .i64 e.kd, .int .i64 e.lc, .int .i64 e.vl, .bool e.aq, .bool e.rl, .bool e.ex], .int .u32 a, .int .u32 d, .int .i64 q] w fun x w' =>
      x = .returned (.tuple #[]) ∧ ∃ r', RB w' b (r' 0) (r' 1) (r' 2) (r' 3) (r' 4) t ∧ Five w' base r' (evs ++ [e]) (ad ++ [a]) (da ++ [d]) (ct ++ [t.ctrl]) (pa ++ [q]) ∧ Only (RS b r) w w' ∧ ∀ k, RS b r' k → RS b r k ∨ w.heap.size ≤ k := by
  obtain ⟨i0, z0, j1, j2, j3, j4, j5⟩ := infoGet infoEv
  have J1 : Hid _ := j1
  have J2 : Hid _ := j2
  have J3 : Hid _ := j3
  have J4 : Hid _ := j4
  have J5 : Hid _ := j5
  clear j1 j2 j3 j4 j5
  obtain ⟨i1, z1, j1, j2, j3, j4, j5⟩ := infoGet infoU32
  have K1 : Hid _ := j1
  have K2 : Hid _ := j2
  have K3 : Hid _ := j3
  have K4 : Hid _ := j4
  have K5 : Hid _ := j5
  clear j1 j2 j3 j4 j5
  obtain ⟨i2, z2, j1, j2, j3, j4, j5⟩ := infoGet infoInt
  have M1 : Hid _ := j1
  have M2 : Hid _ := j2
  have M3 : Hid _ := j3
  have M4 : Hid _ := j4
  have M5 : Hid _ := j5
  clear j1 j2 j3 j4 j5
  obtain ⟨p0, c0, h0⟩ := k5.e0.len
  obtain ⟨p1, c1, h1⟩ := k5.e1.len
  obtain ⟨p2, c2, h2⟩ := k5.e2.len
  obtain ⟨p3, c3, h3⟩ := k5.e3.len
  obtain ⟨p4, c4, h4⟩ := k5.e4.len
  have hne : ∀ w, Nonempty (Ext w) := ext_some
  have hne2 : Nonempty AnyW := anyW_some
  go_enter Tryd.func57, Tryd.ntmps57
  go_wp2
  obtain ⟨w1, hw1, B1, kE⟩ : ∃ w1, w1 = w.alloc (.cells #[.int .i64 e.th, .int .i64 e.kd, .int .i64 e.lc, .int .i64 e.vl, .bool e.aq, .bool e.rl, .bool e.ex] 42) ∧ Below w.heap.size w w1 ∧ Blk w1 w.heap.size #[.int .i64 e.th, .int .i64 e.kd, .int .i64 e.lc, .int .i64 e.vl, .bool e.aq, .bool e.rl, .bool e.ex] 42 :=
    ⟨_, rfl, below_new _ _, Blk.new⟩
  rw [← hw1]
  clear hw1
  have kB1 := kB.keep B1
  have k51 := k5.keep B1
  obtain ⟨x0, x1, x2, x3, x4⟩ := kB1.rows
  have lB := kB1.lt
  have lE := kE.lt
  have ee := fun i => kE.cell i
  have ee0 := ee 0
  have ee1 := ee 1
  have ee2 := ee 2
  have ee3 := ee 3
  have ee4 := ee 4
  have ee5 := ee 5
  have ee6 := ee 6
  clear ee
  simp at ee0 ee1 ee2 ee3 ee4 ee5 ee6
  refine wp_region_mixL [([0, 1, 2, 3, 4, 5, 6], 7, false), ([], 8, true), ([9, 10, 11], 12, true)] [] [8, 12] (by kernel_rfl) (by kernel_rfl) (fun _ _ d _ _ h => by cases d <;> exact h) ?_
  dsimp only [mapL, List.map, opAt]
  refine wpMixL_stage ?_
  repeat (go_big_quiet_step (fail))
  refine wpQuiet_nil ?_
  go_wp2
  obtain ⟨w2, hw2, B2, kN⟩ : ∃ w2, w2 = (w1.alloc (.cells #[.int .i64 e.th, .int .i64 e.kd, .int .i64 e.lc, .int .i64 e.vl, .bool e.aq, .bool e.rl, .bool e.ex] 42)).drew ∧ Below w1.heap.size w1 w2 ∧ Blk w2 w1.heap.size #[.int .i64 e.th, .int .i64 e.kd, .int .i64 e.lc, .int .i64 e.vl, .bool e.aq, .bool e.rl, .bool e.ex] 42 :=
    ⟨_, rfl, (below_new _ _).drew, Blk.drew Blk.new⟩
  rw [← hw2]
  clear hw2
  refine ⟨.inr B2, ?_⟩
  refine wpMixL_stage ?_
  refine wpQuiet_nil ?_
  have kB2 := kB1.keep B2
  have k52 := k51.keep B2
  go_wp2_with (at_builtin; refine wpList_push (R := EvE) (xs := evs) (x := e) (by rfl) (.tmp 15) (.tmp 17) 31 42 i0 z0 40 (by rfl) Tryd.underlying31 J1.out J2.out J4.out J5.out J3.out base (.slice p0 evs.length c0) w1.heap.size (by rfl) (by rfl) (by rw [← h0]; exact k52.e0) e.cells (fun _ _ => rfl) (fun _ _ _ _ _ h => h) (fun j u hj => (kN.cell j).trans (by simpa [Ev.cells] using hj)) l0 (by decide) (Nat.le_trans hbs (Nat.le_trans B1.size B2.size)) ?_; intro p6 c6 w3 hO3 hg3 hv3)
  rw [← h0] at hg3 hv3
  have k53 := k52.app0 hg3 hO3 hv3
  have kB3 : RB w3 b (r 0) (r 1) (r 2) (r 3) (r 4) t := Blk.grown kB2 hg3 (fun e => by have := (k52.lt (i := 0) (by decide) e.symm).1; omega)
  obtain ⟨y0, y1, y2, y3, y4⟩ := kB3.rows
  have f0 := kB3.frozen 0
  refine ⟨.inl trivial, ?_⟩
  refine wpMixL_stage_late ?_
  simp only [Act.put, List.setIfInBounds_toArray, List.set]
  repeat (go_big_quiet_step (fail))
  refine wpQuiet_nil ?_
  go_wp2
  obtain ⟨O4, S4⟩ := app_only (b := b) (i := 0) (r0 := r) (r := r) (v := .slice p6 (evs.length + 1) c6) (by decide) (Below.only B1) (fun _ h => .inl h) B2 hg3 hv3
  have kB4 := kB3.set0 (.slice p6 (evs.length + 1) c6)
  have k54 := k53.set (i := 0) hb (.slice p6 (evs.length + 1) c6)
  have bs4 : base ≤ (w3.setCell ⟨b, 0, none⟩ (.slice p6 (evs.length + 1) c6)).heap.size := by have := O4.size; omega
  obtain ⟨w4, hw4⟩ : ∃ w4, w4 = w3.setCell ⟨b, 0, none⟩ (.slice p6 (evs.length + 1) c6) := ⟨_, rfl⟩
  rw [← hw4] at O4 kB4 k54 bs4 ⊢
  clear hw4 kB1 kB2 kB3 k51 k52 k53 B1 B2 hg3 hv3 hO3 y0 y1 y2 y3 y4 x0 x1 x2 x3 x4 f0 kE kN ee0 ee1 ee2 ee3 ee4 ee5 ee6 lE lB
  refine ⟨.inl trivial, ?_⟩
  refine wpMixL_last ?_
  refine wpQuiet_nil ?_
  obtain ⟨x0, x1, x2, x3, x4⟩ := kB4.rows
  have lB := kB4.lt
  have F1 := trivial
  go_wp2_with (first
    | (at_builtin; clear F1; have B1 := below_new (w4) (.cells #[.int .u32 a] 35); have kN1 : Blk ((w4).alloc (.cells #[.int .u32 a] 35)) w4.heap.size #[.int .u32 a] 35 := Blk.newAt (by simp); have k5a1 := (k54).keep B1; refine wpList_push (R := MskE) (xs := ad) (x := a) (by rfl) (.tmp 27) (.tmp 29) 32 35 i1 z1 4 (by rfl) Tryd.underlying32 K1.out K2.out K4.out K5.out K3.out base (.slice p1 ad.length c1) w4.heap.size (by rfl) (by rfl) (by rw [← h1]; exact k5a1.e1) [.int .u32 a] (fun _ _ => rfl) (fun _ _ _ _ _ h => h) (fun j u hj => (kN1.cell j).trans (by simpa using hj)) l1 (by decide) (Nat.le_trans (Nat.le_trans hbs (Only.size O4)) B1.size) ?_; intro q1 d1 wa1 hO1 hg1 hv1; rw [← h1] at hg1 hv1; have k5b1 := k5a1.app1 hg1 hO1 hv1; have kBb1 := Blk.grown ((kB4).keep B1) hg1 (fun e => by have := (k5a1.lt (i := 1) (by decide) e.symm).1; omega); have g1 := Blk.frozen kBb1 1; obtain ⟨u10, u11, u12, u13, u14⟩ := RB.rows kBb1; have F2 := trivial)
    | (at_builtin; clear F2; have B2 := below_new (wa1.setCell ⟨b, 1, none⟩ (.slice q1 (ad.length + 1) d1)) (.cells #[.int .u32 d] 35); have kN2 : Blk ((wa1.setCell ⟨b, 1, none⟩ (.slice q1 (ad.length + 1) d1)).alloc (.cells #[.int .u32 d] 35)) wa1.heap.size #[.int .u32 d] 35 := Blk.newAt (by simp); have k5a2 := (k5b1.set (i := 1) hb (.slice q1 (ad.length + 1) d1)).keep B2; refine wpList_push (R := MskE) (xs := da) (x := d) (by rfl) (.tmp 39) (.tmp 41) 32 35 i1 z1 4 (by rfl) Tryd.underlying32 K1.out K2.out K4.out K5.out K3.out base (.slice p2 da.length c2) wa1.heap.size (by rfl) (by rfl) (by rw [← h2]; exact k5a2.e2) [.int .u32 d] (fun _ _ => rfl) (fun _ _ _ _ _ h => h) (fun j u hj => (kN2.cell j).trans (by simpa using hj)) l2 (by decide) (Nat.le_trans (Nat.le_trans hbs (Only.size (app_only (b := b) (i := 1) (r0 := r) (r := updV r 0 (.slice p6 (evs.length + 1) c6)) (v := .slice q1 (ad.length + 1) d1) (by decide) O4 S4 B1 hg1 hv1).1)) B2.size) ?_; intro q2 d2 wa2 hO2 hg2 hv2; rw [← h2] at hg2 hv2; have k5b2 := k5a2.app2 hg2 hO2 hv2; have kBb2 := Blk.grown ((RB.set1 kBb1 (.slice q1 (ad.length + 1) d1)).keep B2) hg2 (fun e => by have := (k5a2.lt (i := 2) (by decide) e.symm).1; omega); have g2 := Blk.frozen kBb2 2; obtain ⟨u20, u21, u22, u23, u24⟩ := RB.rows kBb2; have F3 := trivial))
  obtain ⟨O5, S5⟩ := app_only (b := b) (i := 1) (r0 := r) (r := updV r 0 (.slice p6 (evs.length + 1) c6)) (v := .slice q1 (ad.length + 1) d1) (by decide) O4 S4 B1 hg1 hv1
  obtain ⟨O6, S6⟩ := app_only (b := b) (i := 2) (r0 := r) (r := updV (updV r 0 (.slice p6 (evs.length + 1) c6)) 1 (.slice q1 (ad.length + 1) d1)) (v := .slice q2 (da.length + 1) d2) (by decide) O5 S5 B2 hg2 hv2
  have kB6 := RB.set2 kBb2 (.slice q2 (da.length + 1) d2)
  have k56 := k5b2.set (i := 2) hb (.slice q2 (da.length + 1) d2)
  obtain ⟨w6, hw6⟩ : ∃ w6, w6 = wa2.setCell ⟨b, 2, none⟩ (.slice q2 (da.length + 1) d2) := ⟨_, rfl⟩
  rw [← hw6] at O6 kB6 k56 ⊢
  clear hw6 O4 O5 S4 S5 kB4 k54 bs4 kBb1 kBb2 k5b1 k5b2 k5a1 k5a2 kN1 kN2 B1 B2 hg1 hg2 hv1 hv2 hO1 hO2 g1 g2 u10 u11 u12 u13 u14 u20 u21 u22 u23 u24 x0 x1 x2 x3 x4 lB F3
  obtain ⟨x0, x1, x2, x3, x4⟩ := kB6.rows
  obtain ⟨-, -, -, -, x20, -⟩ := kB6.more
  have lB := kB6.lt
  refine wp_region_mixL [([0, 1, 2, 3, 4, 5, 6, 7, 8, 9], 10, false), ([], 11, true), ([12, 13, 14], 15, true)] [] [11, 15] (by kernel_rfl) (by kernel_rfl) (fun _ _ d _ _ h => by cases d <;> exact h) ?_
  dsimp only [mapL, List.map, opAt]
  refine wpMixL_stage ?_
  repeat (go_big_quiet_step (fail))
  refine wpQuiet_nil ?_
  go_wp2
  obtain ⟨w7, hw7, B7, kN⟩ : ∃ w7, w7 = (w6.alloc (.cells #[.int .u32 t.ctrl] 35)).drew ∧ Below w6.heap.size w6 w7 ∧ Blk w7 w6.heap.size #[.int .u32 t.ctrl] 35 :=
    ⟨_, rfl, (below_new _ _).drew, Blk.drew Blk.new⟩
  rw [← hw7]
  clear hw7
  refine ⟨.inr B7, ?_⟩
  refine wpMixL_stage ?_
  refine wpQuiet_nil ?_
  have k57 := k56.keep B7
  go_wp2_with (at_builtin; refine wpList_push (R := MskE) (xs := ct) (x := t.ctrl) (by rfl) (.tmp 51) (.tmp 56) 32 35 i1 z1 4 (by rfl) Tryd.underlying32 K1.out K2.out K4.out K5.out K3.out base (.slice p3 ct.length c3) w6.heap.size (by rfl) (by rfl) (by rw [← h3]; exact k57.e3) [.int .u32 t.ctrl] (fun _ _ => rfl) (fun _ _ _ _ _ h => h) (fun j u hj => (kN.cell j).trans (by simpa using hj)) l3 (by decide) (Nat.le_trans hbs (Nat.le_trans O6.size B7.size)) ?_; intro q3 d3 w8 hO3 hg3 hv3)
  rw [← h3] at hg3 hv3
  have k58 := k57.app3 hg3 hO3 hv3
  have kB8 := Blk.grown (kB6.keep B7) hg3 (fun e => by have := (k57.lt (i := 3) (by decide) e.symm).1; omega)
  obtain ⟨y0, y1, y2, y3, y4⟩ := RB.rows kB8
  have f3 := Blk.frozen kB8 3
  refine ⟨.inl trivial, ?_⟩
  refine wpMixL_stage_late ?_
  simp only [Act.put, List.setIfInBounds_toArray, List.set]
  repeat (go_big_quiet_step (fail))
  refine wpQuiet_nil ?_
  go_wp2
  obtain ⟨O9, S9⟩ := app_only (b := b) (i := 3) (r0 := r) (r := updV (updV (updV r 0 (.slice p6 (evs.length + 1) c6)) 1 (.slice q1 (ad.length + 1) d1)) 2 (.slice q2 (da.length + 1) d2)) (v := .slice q3 (ct.length + 1) d3) (by decide) O6 S6 B7 hg3 hv3
  have kB9 := RB.set3 kB8 (.slice q3 (ct.length + 1) d3)
  have k59 := k58.set (i := 3) hb (.slice q3 (ct.length + 1) d3)
  obtain ⟨w9, hw9⟩ : ∃ w9, w9 = w8.setCell ⟨b, 3, none⟩ (.slice q3 (ct.length + 1) d3) := ⟨_, rfl⟩
  rw [← hw9] at O9 kB9 k59 ⊢
  clear hw9 O6 S6 kB6 k56 k57 k58 kB8 B7 kN hg3 hv3 hO3 f3 y0 y1 y2 y3 y4 x0 x1 x2 x3 x4 x20 lB
  refine ⟨.inl trivial, ?_⟩
  refine wpMixL_last ?_
  refine wpQuiet_nil ?_
  obtain ⟨x0, x1, x2, x3, x4⟩ := kB9.rows
  have lB := kB9.lt
  have F1 := trivial
  go_wp2_with (first
    | (at_builtin; clear F1; have B4 := below_new (w9) (.cells #[.int .i64 q] 3); have kN4 : Blk ((w9).alloc (.cells #[.int .i64 q] 3)) w9.heap.size #[.int .i64 q] 3 := Blk.newAt (by simp); have k5a4 := (k59).keep B4; refine wpList_push (R := IntE) (xs := pa) (x := q) (by rfl) (.tmp 66) (.tmp 68) 33 3 i2 z2 8 (by rfl) Tryd.underlying33 M1.out M2.out M4.out M5.out M3.out base (.slice p4 pa.length c4) w9.heap.size (by rfl) (by rfl) (by rw [← h4]; exact k5a4.e4) [.int .i64 q] (fun _ _ => rfl) (fun _ _ _ _ _ h => h) (fun j u hj => (kN4.cell j).trans (by simpa using hj)) l4 (by decide) (Nat.le_trans (Nat.le_trans hbs (Only.size O9)) B4.size) ?_; intro q4 d4 wa4 hO4 hg4 hv4; rw [← h4] at hg4 hv4; have k5b4 := k5a4.app4 hg4 hO4 hv4; have kBb4 := Blk.grown ((kB9).keep B4) hg4 (fun e => by have := (k5a4.lt (i := 4) (by decide) e.symm).1; omega); have g4 := Blk.frozen kBb4 4; obtain ⟨u40, u41, u42, u43, u44⟩ := RB.rows kBb4; have F2 := trivial))
  obtain ⟨OO, SS⟩ := app_only (b := b) (i := 4) (r0 := r) (r := updV (updV (updV (updV r 0 (.slice p6 (evs.length + 1) c6)) 1 (.slice q1 (ad.length + 1) d1)) 2 (.slice q2 (da.length + 1) d2)) 3 (.slice q3 (ct.length + 1) d3)) (v := .slice q4 (pa.length + 1) d4) (by decide) O9 S9 B4 hg4 hv4
  go_returns
  exact ⟨rfl, _, RB.set4 kBb4 _, k5b4.set (i := 4) hb _, OO, SS⟩
end Go.Proofs.YtgaannoghefbbaaDoor
