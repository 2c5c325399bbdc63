/- FlowStx: FlowStx, FlowStep, in one text. -/
import Derived.Test.YtcalinfdckklfaaGreatDoorPk19
namespace Go.Proofs.YtcalinfdckklfaaGreatDoor
open Go.RowKit
attribute [local go_sem] Ext.cell Ext.frozen

set_option maxHeartbeats 4000000 in
theorem stx_none (x : Ins) {w : World} {b base : Nat} {locs : Int} {vv : Value} {pl : Option Addr} {cl : Nat} {lucks : List Bool} {r : Nat → Value} {s : St} (T : Tab w) (hT : ¬ b ≤ 0) (h : RunAt w b base locs vv (.slice pl lucks.length cl) r s) (hL : locs < 9223372036854775808) (hop : -1 ≤ s.opn ∧ s.opn < s.evs.length) (hr : s.reach locs x = false) :
    Calls Tryz.prog 95 #[.pointer (some ⟨b, 0, none⟩), .agg #[.int .i64 x.op, .int .i64 x.d, .int .i64 x.a, .int .i64 x.b, .int .i64 x.l, .int .i64 x.i]] w fun y w' =>
      y = .returned (.tuple #[]) ∧ Post b base locs vv (.slice pl lucks.length cl) r w (s.fail x) w' := by
  have hSet := fun n y1 y2 w => Set_any s.v s.d n y1 y2 w
  unfold fileV at hSet
  have HSet : Hid _ := hSet
  clear hSet
  have hne : ∀ w, Nonempty (Ext w) := ext_some
  have hne2 : Nonempty AnyW := anyW_some
  have lB := h.blk.lt
  obtain ⟨-, -, -, -, -, m8⟩ := h.blk.more
  have f8 := h.blk.frozen 21
  simp only [St.tail] at m8
  have hnI : ¬ RS b r w.heap.size := fun hk => by have := (h.rs hk).2; omega
  have hIb : ¬ w.heap.size = b := fun e => hnI (.inl e)
  have B2 := below_new (w.setCell ⟨b, 21, none⟩ (.int .i64 (-1))) (.cells #[.int .i64 x.op, .int .i64 x.d, .int .i64 x.a, .int .i64 x.b, .int .i64 x.l, .int .i64 x.i] 72)
  have h2 := (h.setOpn (-1)).keep B2
  have O2 : Only (RS b r) w ((w.setCell ⟨b, 21, none⟩ (.int .i64 (-1))).alloc (.cells #[.int .i64 x.op, .int .i64 x.d, .int .i64 x.a, .int .i64 x.b, .int .i64 x.l, .int .i64 x.i] 72)) := (only_set (r := r)).trans (Below.only B2 : Only (RS b r) _ _) (fun _ h => .inl h)
  have kI2 : InsB ((w.setCell ⟨b, 21, none⟩ (.int .i64 (-1))).alloc (.cells #[.int .i64 x.op, .int .i64 x.d, .int .i64 x.a, .int .i64 x.b, .int .i64 x.l, .int .i64 x.i] 72)) w.heap.size x.op x.d x.a x.b x.l x.i := Blk.newAt (by simp)
  have T2 : Tab ((w.setCell ⟨b, 21, none⟩ (.int .i64 (-1))).alloc (.cells #[.int .i64 x.op, .int .i64 x.d, .int .i64 x.a, .int .i64 x.b, .int .i64 x.l, .int .i64 x.i] 72)) := (T.only (only_set (r := r)) fun hk => hT (h.rs hk).1).below B2
  have HR : Hid (Calls _ _ _ _ _) := reaches_run x s.opn T2 h2 hL hop
  go_enter Tryz.func95, Tryz.ntmps95
  go_wp2_with (go_at_call 125; refine HR.out.mono ?_; rintro e w3 ⟨rfl, hb3⟩; rw [show (!(s.opn == -1) && (({ s with opn := -1 } : St).lcAt s.opn == placeZ ({ s with opn := -1 } : St).v x.op x.a x.l locs)) = false from hr])
  have O3 : Only (RS b r) w w3 := O2.trans (Below.only hb3) (fun _ h => .inl h)
  have h3 := h2.keep hb3
  have kI3 := kI2.keep hb3
  have T3 := T2.below hb3
  clear lB m8 f8 h2 O2 kI2 T2 HR hb3 B2
  obtain ⟨y0, y1, y2, y3, y4, y5⟩ := kI3.cells
  have lI := kI3.lt
  have lB := h3.blk.lt
  obtain ⟨⟨r0, r1, r2, r3⟩, r4, r5, r6, r7⟩ := h3.blk.regs
  simp only [St.tail] at r0 r1 r2 r3 r4 r5 r6 r7
  refine wp_region_mixL [([0, 1, 2, 3, 4, 5, 6, 7], 8, false), ([9, 10, 11], 12, true)] [] [12] (by kernel_rfl) (by kernel_rfl) (fun _ _ d _ _ h => by cases d <;> exact h) ?_
  dsimp only [mapL, List.map, opAt]
  refine wpMixL_stage ?_
  repeat (go_big_quiet_step (fail))
  refine wpQuiet_nil ?_
  go_wp2_with (go_at_call 123; refine (HSet.out _ _ _ _).mono ?_; rintro e w7 ⟨rfl, hbw7⟩)
  have Bw7 : Below w3.heap.size w3 w7 := Below.thru (Below.drew (Below.refl _ _)) hbw7 (Nat.le_refl _)
  refine ⟨.inr Bw7, ?_⟩
  refine wpMixL_stage ?_
  repeat (go_big_quiet_step (fail))
  refine wpQuiet_nil ?_
  have hw7 := h3.keep Bw7
  obtain ⟨⟨t0, t1, t2, t3⟩, t4, t5, t6, t7⟩ := hw7.blk.regs
  have u0 := hw7.blk.frozen 5
  have u1 := hw7.blk.frozen 6
  have u2 := hw7.blk.frozen 7
  have u3 := hw7.blk.frozen 8
  have u4 := hw7.blk.frozen 9
  have u5 := hw7.blk.frozen 10
  have u6 := hw7.blk.frozen 11
  have u7 := hw7.blk.frozen 12
  go_wp2
  have hZ := hw7.putR (upd s.v x.d 1) (upd s.d x.d 0)
  obtain ⟨wZ, hwZ⟩ : ∃ wZ, wZ = putR w7 b (upd s.v x.d 1) (upd s.d x.d 0) := ⟨_, rfl⟩
  have OZ : Only (RS b r) w7 wZ := by rw [hwZ]; exact only_putR
  rw [← hwZ] at hZ
  unfold putR at hwZ
  rw [← hwZ]
  clear hwZ
  refine ⟨.inl trivial, ?_⟩
  refine wpMixL_last ?_
  refine wpQuiet_nil ?_
  go_wp2
  go_returns
  exact ⟨rfl, r, hZ, (O3.trans (Below.only Bw7) fun _ h => .inl h).trans OZ (fun _ h => .inl h), fun _ h => .inl h⟩

set_option maxHeartbeats 4000000 in
theorem stx_ends (x : Ins) {w : World} {b base : Nat} {locs : Int} {vv : Value} {pl : Option Addr} {cl : Nat} {lucks : List Bool} {r : Nat → Value} {s : St} (T : Tab w) (hT : ¬ b ≤ 0) (h : RunAt w b base locs vv (.slice pl lucks.length cl) r s) (hL : locs < 9223372036854775808) (hop : -1 ≤ s.opn ∧ s.opn < s.evs.length) (hr : s.reach locs x = true) (hlk : s.lucks = lucks.length) :
    Calls Tryz.prog 95 #[.pointer (some ⟨b, 0, none⟩), .agg #[.int .i64 x.op, .int .i64 x.d, .int .i64 x.a, .int .i64 x.b, .int .i64 x.l, .int .i64 x.i]] w fun y w' =>
      y = .returned (.tuple #[]) ∧ Post b base locs vv (.slice pl lucks.length cl) r w { s with opn := -1, more := 2 } w' := by
  have hlb : ((s.lucks : Int) == (lucks.length : Int)) = true := by rw [hlk]; simp
  clear hlk
  have hne : ∀ w, Nonempty (Ext w) := ext_some
  have hne2 : Nonempty AnyW := anyW_some
  have lB := h.blk.lt
  obtain ⟨-, -, -, -, -, m8⟩ := h.blk.more
  have f8 := h.blk.frozen 21
  simp only [St.tail] at m8
  have hnI : ¬ RS b r w.heap.size := fun hk => by have := (h.rs hk).2; omega
  have hIb : ¬ w.heap.size = b := fun e => hnI (.inl e)
  have B2 := below_new (w.setCell ⟨b, 21, none⟩ (.int .i64 (-1))) (.cells #[.int .i64 x.op, .int .i64 x.d, .int .i64 x.a, .int .i64 x.b, .int .i64 x.l, .int .i64 x.i] 72)
  have h2 := (h.setOpn (-1)).keep B2
  have O2 : Only (RS b r) w ((w.setCell ⟨b, 21, none⟩ (.int .i64 (-1))).alloc (.cells #[.int .i64 x.op, .int .i64 x.d, .int .i64 x.a, .int .i64 x.b, .int .i64 x.l, .int .i64 x.i] 72)) := (only_set (r := r)).trans (Below.only B2 : Only (RS b r) _ _) (fun _ h => .inl h)
  have kI2 : InsB ((w.setCell ⟨b, 21, none⟩ (.int .i64 (-1))).alloc (.cells #[.int .i64 x.op, .int .i64 x.d, .int .i64 x.a, .int .i64 x.b, .int .i64 x.l, .int .i64 x.i] 72)) w.heap.size x.op x.d x.a x.b x.l x.i := Blk.newAt (by simp)
  have T2 : Tab ((w.setCell ⟨b, 21, none⟩ (.int .i64 (-1))).alloc (.cells #[.int .i64 x.op, .int .i64 x.d, .int .i64 x.a, .int .i64 x.b, .int .i64 x.l, .int .i64 x.i] 72)) := (T.only (only_set (r := r)) fun hk => hT (h.rs hk).1).below B2
  have HR : Hid (Calls _ _ _ _ _) := reaches_run x s.opn T2 h2 hL hop
  go_enter Tryz.func95, Tryz.ntmps95
  go_wp2_with (go_at_call 125; refine HR.out.mono ?_; rintro e w3 ⟨rfl, hb3⟩; rw [show (!(s.opn == -1) && (({ s with opn := -1 } : St).lcAt s.opn == placeZ ({ s with opn := -1 } : St).v x.op x.a x.l locs)) = true from hr])
  have O3 : Only (RS b r) w w3 := O2.trans (Below.only hb3) (fun _ h => .inl h)
  have h3 := h2.keep hb3
  have kI3 := kI2.keep hb3
  have T3 := T2.below hb3
  clear lB m8 f8 h2 O2 kI2 T2 HR hb3 B2
  have lB := h3.blk.lt
  obtain ⟨⟨-, m1, m2, -⟩, -, m5, -⟩ := h3.blk.more
  simp only [St.tail] at m1 m2 m5
  refine wp_region_ext (by kernel_rfl) (by kernel_rfl) ?_
  repeat (go_big_quiet_step (fail))
  refine wpQuiet_nil ?_
  rintro _ ⟨p, rfl⟩
  have h4 := h3.keep p.ok
  have O4 : Only (RS b r) w p.wd := O3.trans (Below.only p.ok) (fun _ h => .inl h)
  obtain ⟨⟨-, n1, n2, -⟩, -, n5, -⟩ := h4.blk.more
  have f2 := h4.blk.frozen 15
  simp only [St.tail] at n1 n2 n5
  go_wp2
  go_returns
  exact ⟨rfl, r, h4.setMore 2, O4.trans only_set (fun _ h => .inl h), fun _ h => .inl h⟩

set_option maxHeartbeats 4000000 in
theorem stx_fails (x : Ins) {w : World} {b base : Nat} {locs : Int} {vv : Value} {pl : Option Addr} {cl : Nat} {lucks : List Bool} {r : Nat → Value} {s : St} (T : Tab w) (hT : ¬ b ≤ 0) (h : RunAt w b base locs vv (.slice pl lucks.length cl) r s) (hL : locs < 9223372036854775808) (hop : -1 ≤ s.opn ∧ s.opn < s.evs.length) (hr : s.reach locs x = true) (hlk : s.lucks < lucks.length) (hll : lucks.length ≤ 1000000) (hsl : SlA (fun k => k < b) BoolE w (.slice pl lucks.length cl) lucks) (hgd : lucks.getD s.lucks false = false) :
    Calls Tryz.prog 95 #[.pointer (some ⟨b, 0, none⟩), .agg #[.int .i64 x.op, .int .i64 x.d, .int .i64 x.a, .int .i64 x.b, .int .i64 x.l, .int .i64 x.i]] w fun y w' =>
      y = .returned (.tuple #[]) ∧ Post b base locs vv (.slice pl lucks.length cl) r w (({ s with lucks := s.lucks + 1 } : St).fail x) w' := by
  have hlb : ((s.lucks : Int) == (lucks.length : Int)) = false := by simp; omega
  have hwr : wrap64 ((s.lucks : Int) + 1) = (s.lucks : Int) + 1 := wrap_is (by omega) (by omega)
  have hz : lucks[s.lucks] = false := by rw [← hgd]; simp [hlk]
  clear hgd
  have hSet := fun n y1 y2 w => Set_any s.v s.d n y1 y2 w
  unfold fileV at hSet
  have HSet : Hid _ := hSet
  clear hSet
  have hne : ∀ w, Nonempty (Ext w) := ext_some
  have hne2 : Nonempty AnyW := anyW_some
  have lB := h.blk.lt
  obtain ⟨-, -, -, -, -, m8⟩ := h.blk.more
  have f8 := h.blk.frozen 21
  simp only [St.tail] at m8
  have hnI : ¬ RS b r w.heap.size := fun hk => by have := (h.rs hk).2; omega
  have hIb : ¬ w.heap.size = b := fun e => hnI (.inl e)
  have B2 := below_new (w.setCell ⟨b, 21, none⟩ (.int .i64 (-1))) (.cells #[.int .i64 x.op, .int .i64 x.d, .int .i64 x.a, .int .i64 x.b, .int .i64 x.l, .int .i64 x.i] 72)
  have h2 := (h.setOpn (-1)).keep B2
  have O2 : Only (RS b r) w ((w.setCell ⟨b, 21, none⟩ (.int .i64 (-1))).alloc (.cells #[.int .i64 x.op, .int .i64 x.d, .int .i64 x.a, .int .i64 x.b, .int .i64 x.l, .int .i64 x.i] 72)) := (only_set (r := r)).trans (Below.only B2 : Only (RS b r) _ _) (fun _ h => .inl h)
  have kI2 : InsB ((w.setCell ⟨b, 21, none⟩ (.int .i64 (-1))).alloc (.cells #[.int .i64 x.op, .int .i64 x.d, .int .i64 x.a, .int .i64 x.b, .int .i64 x.l, .int .i64 x.i] 72)) w.heap.size x.op x.d x.a x.b x.l x.i := Blk.newAt (by simp)
  have T2 : Tab ((w.setCell ⟨b, 21, none⟩ (.int .i64 (-1))).alloc (.cells #[.int .i64 x.op, .int .i64 x.d, .int .i64 x.a, .int .i64 x.b, .int .i64 x.l, .int .i64 x.i] 72)) := (T.only (only_set (r := r)) fun hk => hT (h.rs hk).1).below B2
  have HR : Hid (Calls _ _ _ _ _) := reaches_run x s.opn T2 h2 hL hop
  go_enter Tryz.func95, Tryz.ntmps95
  go_wp2_with (go_at_call 125; refine HR.out.mono ?_; rintro e w3 ⟨rfl, hb3⟩; rw [show (!(s.opn == -1) && (({ s with opn := -1 } : St).lcAt s.opn == placeZ ({ s with opn := -1 } : St).v x.op x.a x.l locs)) = true from hr])
  have O3 : Only (RS b r) w w3 := O2.trans (Below.only hb3) (fun _ h => .inl h)
  have h3 := h2.keep hb3
  have kI3 := kI2.keep hb3
  have T3 := T2.below hb3
  clear lB m8 f8 h2 O2 kI2 T2 HR hb3 B2
  have lB := h3.blk.lt
  obtain ⟨⟨-, m1, m2, -⟩, -, m5, -⟩ := h3.blk.more
  simp only [St.tail] at m1 m2 m5
  refine wp_region_ext (by kernel_rfl) (by kernel_rfl) ?_
  repeat (go_big_quiet_step (fail))
  refine wpQuiet_nil ?_
  rintro _ ⟨p, rfl⟩
  have h4 := h3.keep p.ok
  have O4 : Only (RS b r) w p.wd := O3.trans (Below.only p.ok) (fun _ h => .inl h)
  have kI4 := kI3.keep p.ok
  have T4 := T3.below p.ok
  obtain ⟨w4, hw4⟩ : ∃ w4, w4 = p.wd := ⟨_, rfl⟩
  rw [← hw4] at h4 O4 kI4 T4 ⊢
  clear hw4 p m1 m2 m5 lB h3 O3 kI3 T3 w3
  have lB := h4.blk.lt
  obtain ⟨⟨-, m1, m2, -⟩, -, m5, -⟩ := h4.blk.more
  simp only [St.tail] at m1 m2 m5
  obtain ⟨g, o, rfl, gz⟩ := (bool_at (hsl.agree (O4.agree fun k hk hS => by have := (h.rs hS).1; omega))).2 s.lucks hlk
  rw [hz] at gz
  have lG := cell_lt gz
  go_wp2
  refine wp_region_ext (by kernel_rfl) (by kernel_rfl) ?_
  repeat (go_big_quiet_step (fail))
  refine wpQuiet_nil ?_
  rintro _ ⟨p, rfl⟩
  have h5 := h4.keep p.ok
  have O5 : Only (RS b r) w p.wd := O4.trans (Below.only p.ok) (fun _ h => .inl h)
  have kI5 := kI4.keep p.ok
  have T5 := T4.below p.ok
  obtain ⟨w5, hw5⟩ : ∃ w5, w5 = p.wd := ⟨_, rfl⟩
  rw [← hw5] at h5 O5 kI5 T5 ⊢
  clear hw5 p m1 m2 m5 lB lG gz h4 O4 kI4 T4 w4
  have lB := h5.blk.lt
  obtain ⟨⟨-, m1, -, -⟩, -⟩ := h5.blk.more
  have f1 := h5.blk.frozen 14
  simp only [St.tail] at m1
  have h6 := h5.setLucks (n := (s.lucks : Int) + 1) (k := s.lucks + 1) rfl
  have O6 : Only (RS b r) w (w5.setCell ⟨b, 14, none⟩ (.int .i64 ((s.lucks : Int) + 1))) := O5.trans only_set (fun _ h => .inl h)
  have kI6 : InsB (w5.setCell ⟨b, 14, none⟩ (.int .i64 ((s.lucks : Int) + 1))) w.heap.size x.op x.d x.a x.b x.l x.i := Blk.only kI5 (only_set (r := r)) hnI
  have T6 : Tab (w5.setCell ⟨b, 14, none⟩ (.int .i64 ((s.lucks : Int) + 1))) := T5.only only_set fun hk => hT (h.rs hk).1
  go_wp2
  obtain ⟨w6, hw6⟩ : ∃ w6, w6 = w5.setCell ⟨b, 14, none⟩ (.int .i64 ((s.lucks : Int) + 1)) := ⟨_, rfl⟩
  rw [← hw6] at h6 O6 kI6 T6 ⊢
  clear hw6 m1 f1 lB h5 O5 kI5 T5 w5
  obtain ⟨y0, y1, y2, y3, y4, y5⟩ := kI6.cells
  have lI := kI6.lt
  have lB := h6.blk.lt
  obtain ⟨⟨r0, r1, r2, r3⟩, r4, r5, r6, r7⟩ := h6.blk.regs
  simp only [St.tail] at r0 r1 r2 r3 r4 r5 r6 r7
  refine wp_region_mixL [([0, 1, 2, 3, 4, 5, 6, 7], 8, false), ([9, 10, 11], 12, true)] [] [12] (by kernel_rfl) (by kernel_rfl) (fun _ _ d _ _ h => by cases d <;> exact h) ?_
  dsimp only [mapL, List.map, opAt]
  refine wpMixL_stage ?_
  repeat (go_big_quiet_step (fail))
  refine wpQuiet_nil ?_
  go_wp2_with (go_at_call 123; refine (HSet.out _ _ _ _).mono ?_; rintro e w7 ⟨rfl, hbw7⟩)
  have Bw7 : Below w6.heap.size w6 w7 := Below.thru (Below.drew (Below.refl _ _)) hbw7 (Nat.le_refl _)
  refine ⟨.inr Bw7, ?_⟩
  refine wpMixL_stage ?_
  repeat (go_big_quiet_step (fail))
  refine wpQuiet_nil ?_
  have hw7 := h6.keep Bw7
  obtain ⟨⟨t0, t1, t2, t3⟩, t4, t5, t6, t7⟩ := hw7.blk.regs
  have u0 := hw7.blk.frozen 5
  have u1 := hw7.blk.frozen 6
  have u2 := hw7.blk.frozen 7
  have u3 := hw7.blk.frozen 8
  have u4 := hw7.blk.frozen 9
  have u5 := hw7.blk.frozen 10
  have u6 := hw7.blk.frozen 11
  have u7 := hw7.blk.frozen 12
  go_wp2
  have hZ := hw7.putR (upd s.v x.d 1) (upd s.d x.d 0)
  obtain ⟨wZ, hwZ⟩ : ∃ wZ, wZ = putR w7 b (upd s.v x.d 1) (upd s.d x.d 0) := ⟨_, rfl⟩
  have OZ : Only (RS b r) w7 wZ := by rw [hwZ]; exact only_putR
  rw [← hwZ] at hZ
  unfold putR at hwZ
  rw [← hwZ]
  clear hwZ
  refine ⟨.inl trivial, ?_⟩
  refine wpMixL_last ?_
  refine wpQuiet_nil ?_
  go_wp2
  go_returns
  exact ⟨rfl, r, hZ, (O6.trans (Below.only Bw7) fun _ h => .inl h).trans OZ (fun _ h => .inl h), fun _ h => .inl h⟩

set_option maxHeartbeats 4000000 in
theorem stx_stores (x : Ins) {w : World} {b base : Nat} {locs : Int} {vv : Value} {pl : Option Addr} {cl : Nat} {lucks : List Bool} {r : Nat → Value} {s : St} (T : Tab w) (hT : ¬ b ≤ 0) (h : RunAt w b base locs vv (.slice pl lucks.length cl) r s) (hL : locs < 9223372036854775808) (hop : -1 ≤ s.opn ∧ s.opn < s.evs.length) (hr : s.reach locs x = true) (hlk : s.lucks < lucks.length) (hll : lucks.length ≤ 1000000) (hsl : SlA (fun k => k < b) BoolE w (.slice pl lucks.length cl) lucks) (hgd : lucks.getD s.lucks false = true) (hl : LenOk s) :
    Calls Tryz.prog 95 #[.pointer (some ⟨b, 0, none⟩), .agg #[.int .i64 x.op, .int .i64 x.d, .int .i64 x.a, .int .i64 x.b, .int .i64 x.l, .int .i64 x.i]] w fun y w' =>
      y = .returned (.tuple #[]) ∧ Post b base locs vv (.slice pl lucks.length cl) r w (s.stx locs x) w' := by
  have hlb : ((s.lucks : Int) == (lucks.length : Int)) = false := by simp; omega
  have hwr : wrap64 ((s.lucks : Int) + 1) = (s.lucks : Int) + 1 := wrap_is (by omega) (by omega)
  have hz : lucks[s.lucks] = true := by rw [← hgd]; simp [hlk]
  clear hgd
  have hSet := fun n y1 y2 w => Set_any s.v s.d n y1 y2 w
  unfold fileV at hSet
  have HSet : Hid _ := hSet
  clear hSet
  have hne : ∀ w, Nonempty (Ext w) := ext_some
  have hne2 : Nonempty AnyW := anyW_some
  have lB := h.blk.lt
  obtain ⟨-, -, -, -, -, m8⟩ := h.blk.more
  have f8 := h.blk.frozen 21
  simp only [St.tail] at m8
  have hnI : ¬ RS b r w.heap.size := fun hk => by have := (h.rs hk).2; omega
  have hIb : ¬ w.heap.size = b := fun e => hnI (.inl e)
  have B2 := below_new (w.setCell ⟨b, 21, none⟩ (.int .i64 (-1))) (.cells #[.int .i64 x.op, .int .i64 x.d, .int .i64 x.a, .int .i64 x.b, .int .i64 x.l, .int .i64 x.i] 72)
  have h2 := (h.setOpn (-1)).keep B2
  have O2 : Only (RS b r) w ((w.setCell ⟨b, 21, none⟩ (.int .i64 (-1))).alloc (.cells #[.int .i64 x.op, .int .i64 x.d, .int .i64 x.a, .int .i64 x.b, .int .i64 x.l, .int .i64 x.i] 72)) := (only_set (r := r)).trans (Below.only B2 : Only (RS b r) _ _) (fun _ h => .inl h)
  have kI2 : InsB ((w.setCell ⟨b, 21, none⟩ (.int .i64 (-1))).alloc (.cells #[.int .i64 x.op, .int .i64 x.d, .int .i64 x.a, .int .i64 x.b, .int .i64 x.l, .int .i64 x.i] 72)) w.heap.size x.op x.d x.a x.b x.l x.i := Blk.newAt (by simp)
  have T2 : Tab ((w.setCell ⟨b, 21, none⟩ (.int .i64 (-1))).alloc (.cells #[.int .i64 x.op, .int .i64 x.d, .int .i64 x.a, .int .i64 x.b, .int .i64 x.l, .int .i64 x.i] 72)) := (T.only (only_set (r := r)) fun hk => hT (h.rs hk).1).below B2
  have HR : Hid (Calls _ _ _ _ _) := reaches_run x s.opn T2 h2 hL hop
  go_enter Tryz.func95, Tryz.ntmps95
  go_wp2_with (go_at_call 125; refine HR.out.mono ?_; rintro e w3 ⟨rfl, hb3⟩; rw [show (!(s.opn == -1) && (({ s with opn := -1 } : St).lcAt s.opn == placeZ ({ s with opn := -1 } : St).v x.op x.a x.l locs)) = true from hr])
  have O3 : Only (RS b r) w w3 := O2.trans (Below.only hb3) (fun _ h => .inl h)
  have h3 := h2.keep hb3
  have kI3 := kI2.keep hb3
  have T3 := T2.below hb3
  clear lB m8 f8 h2 O2 kI2 T2 HR hb3 B2
  have lB := h3.blk.lt
  obtain ⟨⟨-, m1, m2, -⟩, -, m5, -⟩ := h3.blk.more
  simp only [St.tail] at m1 m2 m5
  refine wp_region_ext (by kernel_rfl) (by kernel_rfl) ?_
  repeat (go_big_quiet_step (fail))
  refine wpQuiet_nil ?_
  rintro _ ⟨p, rfl⟩
  have h4 := h3.keep p.ok
  have O4 : Only (RS b r) w p.wd := O3.trans (Below.only p.ok) (fun _ h => .inl h)
  have kI4 := kI3.keep p.ok
  have T4 := T3.below p.ok
  obtain ⟨w4, hw4⟩ : ∃ w4, w4 = p.wd := ⟨_, rfl⟩
  rw [← hw4] at h4 O4 kI4 T4 ⊢
  clear hw4 p m1 m2 m5 lB h3 O3 kI3 T3 w3
  have lB := h4.blk.lt
  obtain ⟨⟨-, m1, m2, -⟩, -, m5, -⟩ := h4.blk.more
  simp only [St.tail] at m1 m2 m5
  obtain ⟨g, o, rfl, gz⟩ := (bool_at (hsl.agree (O4.agree fun k hk hS => by have := (h.rs hS).1; omega))).2 s.lucks hlk
  rw [hz] at gz
  have lG := cell_lt gz
  go_wp2
  refine wp_region_ext (by kernel_rfl) (by kernel_rfl) ?_
  repeat (go_big_quiet_step (fail))
  refine wpQuiet_nil ?_
  rintro _ ⟨p, rfl⟩
  have h5 := h4.keep p.ok
  have O5 : Only (RS b r) w p.wd := O4.trans (Below.only p.ok) (fun _ h => .inl h)
  have kI5 := kI4.keep p.ok
  have T5 := T4.below p.ok
  obtain ⟨w5, hw5⟩ : ∃ w5, w5 = p.wd := ⟨_, rfl⟩
  rw [← hw5] at h5 O5 kI5 T5 ⊢
  clear hw5 p m1 m2 m5 lB lG gz h4 O4 kI4 T4 w4
  have lB := h5.blk.lt
  obtain ⟨⟨-, m1, -, -⟩, -⟩ := h5.blk.more
  have f1 := h5.blk.frozen 14
  simp only [St.tail] at m1
  have h6 := h5.setLucks (n := (s.lucks : Int) + 1) (k := s.lucks + 1) rfl
  have O6 : Only (RS b r) w (w5.setCell ⟨b, 14, none⟩ (.int .i64 ((s.lucks : Int) + 1))) := O5.trans only_set (fun _ h => .inl h)
  have kI6 : InsB (w5.setCell ⟨b, 14, none⟩ (.int .i64 ((s.lucks : Int) + 1))) w.heap.size x.op x.d x.a x.b x.l x.i := Blk.only kI5 (only_set (r := r)) hnI
  have T6 : Tab (w5.setCell ⟨b, 14, none⟩ (.int .i64 ((s.lucks : Int) + 1))) := T5.only only_set fun hk => hT (h.rs hk).1
  have HW : Hid (Calls _ _ _ _ _) := write_run x s.opn T6 h6 ⟨hl.ev, hl.ad, hl.da, hl.ct, hl.pa⟩ hL
  obtain ⟨y0, y1, y2, y3, y4, y5⟩ := kI5.cells
  have lI := kI5.lt
  go_wp2_with (go_at_call 124; refine HW.out.mono ?_; rintro e w8 ⟨rfl, hp⟩)
  obtain ⟨r8, h8, O8', S8⟩ := hp
  have O8 : Only (RS b r) w w8 := O6.trans O8' (fun _ h => .inl h)
  have S8' : ∀ k, RS b r8 k → RS b r k ∨ w.heap.size ≤ k := fun k hk => by rcases S8 k hk with h | h; exact .inl h; exact .inr (Nat.le_trans O6.size h)
  have kI8 : InsB w8 w.heap.size x.op x.d x.a x.b x.l x.i := Blk.only kI6 O8' hnI
  clear y0 y1 y2 y3 y4 y5 lI kI6 T6 h6 O6 O8' S8 HW m1 f1 lB h5 O5 kI5 T5
  obtain ⟨y0, y1, y2, y3, y4, y5⟩ := kI8.cells
  have lI := kI8.lt
  have lB := h8.blk.lt
  obtain ⟨⟨r0, r1, r2, r3⟩, r4, r5, r6, r7⟩ := h8.blk.regs
  simp only [St.tail, St.write, St.add] at r0 r1 r2 r3 r4 r5 r6 r7
  refine wp_region_mixL [([0, 1, 2, 3, 4, 5, 6, 7], 8, false), ([9, 10, 11], 12, true)] [] [12] (by kernel_rfl) (by kernel_rfl) (fun _ _ d _ _ h => by cases d <;> exact h) ?_
  dsimp only [mapL, List.map, opAt]
  refine wpMixL_stage ?_
  repeat (go_big_quiet_step (fail))
  refine wpQuiet_nil ?_
  go_wp2_with (go_at_call 123; refine (HSet.out _ _ _ _).mono ?_; rintro e w7 ⟨rfl, hbw7⟩)
  have Bw7 : Below w8.heap.size w8 w7 := Below.thru (Below.drew (Below.refl _ _)) hbw7 (Nat.le_refl _)
  refine ⟨.inr Bw7, ?_⟩
  refine wpMixL_stage ?_
  repeat (go_big_quiet_step (fail))
  refine wpQuiet_nil ?_
  have hw7 := h8.keep Bw7
  obtain ⟨⟨t0, t1, t2, t3⟩, t4, t5, t6, t7⟩ := hw7.blk.regs
  have u0 := hw7.blk.frozen 5
  have u1 := hw7.blk.frozen 6
  have u2 := hw7.blk.frozen 7
  have u3 := hw7.blk.frozen 8
  have u4 := hw7.blk.frozen 9
  have u5 := hw7.blk.frozen 10
  have u6 := hw7.blk.frozen 11
  have u7 := hw7.blk.frozen 12
  go_wp2
  have hZ := hw7.putR (upd s.v x.d 0) (upd s.d x.d 0)
  obtain ⟨wZ, hwZ⟩ : ∃ wZ, wZ = putR w7 b (upd s.v x.d 0) (upd s.d x.d 0) := ⟨_, rfl⟩
  have OZ : Only (RS b r8) w7 wZ := by rw [hwZ]; exact only_putR
  rw [← hwZ] at hZ
  unfold putR at hwZ
  rw [← hwZ]
  clear hwZ
  refine ⟨.inl trivial, ?_⟩
  refine wpMixL_last ?_
  refine wpQuiet_nil ?_
  go_wp2
  go_returns
  exact ⟨rfl, r8, hZ, O8.trans ((Below.only Bw7 : Only (RS b r8) w8 w7).trans OZ (fun _ h => .inl h)) S8', S8'⟩

end Go.Proofs.YtcalinfdckklfaaGreatDoor

namespace Go.Proofs.YtcalinfdckklfaaGreatDoor
open Go.RowKit
attribute [local go_sem] Ext.cell Ext.frozen

def actF (op : Int) : FuncId := if op = 5 ∨ op = 7 ∨ op = 9 then 93 else if op = 6 ∨ op = 8 then 94 else if op = 10 then 95 else if op = 11 then 96 else if op = 12 then 97 else if op = 13 ∨ op = 14 then 98 else 99

theorem ops14 (op : Int) (h : 1 ≤ op ∧ op ≤ 14) : op = 1 ∨ op = 2 ∨ op = 3 ∨ op = 4 ∨ op = 5 ∨ op = 6 ∨ op = 7 ∨ op = 8 ∨ op = 9 ∨ op = 10 ∨ op = 11 ∨ op = 12 ∨ op = 13 ∨ op = 14 := by omega

set_option maxHeartbeats 4000000 in
theorem action_any (op d a b l i : Int) (k : Nat) (w : World) (h : 1 ≤ op ∧ op ≤ 14) : Calls Tryz.prog 85 #[.pointer (some ⟨k, 0, none⟩), .agg #[.int .i64 op, .int .i64 d, .int .i64 a, .int .i64 b, .int .i64 l, .int .i64 i]] w fun e w' =>
    e = .returned (.func (.func (actF op)) #[.pointer (some ⟨k, 0, none⟩)] #[]) ∧ Below w.heap.size w w' := by
  rcases ops14 op h with h | h | h | h | h | h | h | h | h | h | h | h | h | h
  all_goals
    subst h
    go_enter Tryz.func85, Tryz.ntmps85
    go_wp2
    go_returns
    exact ⟨rfl, by go_grown⟩

theorem step_run (x : Ins) {n : Nat} {w : World} {b base : Nat} {locs : Int} {pv pl : Option Addr} {cv cl : Nat} {vals : List Int} {lucks : List Bool} {r : Nat → Value} {s : St} (T : Tab w) (Tb : Bar w) (hT : ¬ b ≤ 0) (h : RunAt w b base locs (.slice pv vals.length cv) (.slice pl lucks.length cl) r s)
    (hin : StIn n vals lucks s) (hn : n ≤ 8) (ok : InsOk locs (n - s.next) x) (hL : locs < 9223372036854775808)
    (hsv : SlA (fun k => k < b) IntE w (.slice pv vals.length cv) vals) (hsl : SlA (fun k => k < b) BoolE w (.slice pl lucks.length cl) lucks) (hv : vals.length ≤ 1000000) (hl : lucks.length ≤ 1000000) :
    Calls Tryz.prog (actF x.op) #[.pointer (some ⟨b, 0, none⟩), .agg #[.int .i64 x.op, .int .i64 x.d, .int .i64 x.a, .int .i64 x.b, .int .i64 x.l, .int .i64 x.i]] w fun y w' =>
      y = .returned (.tuple #[]) ∧ Post b base locs (.slice pv vals.length cv) (.slice pl lucks.length cl) r w (s.step locs vals lucks x) w' := by
  have e1 := hin.ev
  have e2 := hin.nx
  have hlen : LenOk s := ⟨by omega, hin.ad, hin.da, hin.ct, hin.pa⟩
  unfold actF St.step
  by_cases c1 : x.op = 5 ∨ x.op = 7 ∨ x.op = 9
  · rw [if_pos c1, if_pos c1]
    by_cases cv : s.vals = vals.length
    · rw [if_pos cv]
      exact load_ends x h cv
    · rw [if_neg cv]
      exact load_takes x T hT h hlen (by omega) hL hsv (by have := hin.vs; omega) hv
  rw [if_neg c1, if_neg c1]
  by_cases c2 : x.op = 6 ∨ x.op = 8
  · rw [if_pos c2, if_pos c2]
    exact store_run x T h hlen hL
  rw [if_neg c2, if_neg c2]
  by_cases c3 : x.op = 10
  · rw [if_pos c3, if_pos c3]
    by_cases cr : s.reach locs x = true
    · rw [if_pos cr]
      by_cases cl : s.lucks = lucks.length
      · rw [if_pos cl]
        exact stx_ends x T hT h hL hin.op cr cl
      · rw [if_neg cl]
        have hlk : s.lucks < lucks.length := by have := hin.ls; omega
        by_cases cg : lucks.getD s.lucks false = true
        · rw [if_pos cg]
          exact stx_stores x T hT h hL hin.op cr hlk hl hsl cg hlen
        · rw [if_neg cg]
          exact stx_fails x T hT h hL hin.op cr hlk hl hsl (by simpa using cg)
    · rw [if_neg cr]
      exact stx_none x T hT h hL hin.op (by simpa using cr)
  rw [if_neg c3, if_neg c3]
  by_cases c4 : x.op = 11
  · rw [if_pos c4, if_pos c4]
    exact dmb_run x Tb h hlen (ok.dmb c4)
  rw [if_neg c4, if_neg c4]
  by_cases c5 : x.op = 12
  · rw [if_pos c5, if_pos c5]
    exact isb_run x h hlen
  rw [if_neg c5, if_neg c5]
  by_cases c6 : x.op = 13 ∨ x.op = 14
  · rw [if_pos c6, if_pos c6]
    have := ok.br c6
    exact branch_run x h ⟨this.1, by omega⟩ (by omega)
  rw [if_neg c6, if_neg c6]
  have := ok.op
  exact reckon_run x T h (by omega) (by omega)
end Go.Proofs.YtcalinfdckklfaaGreatDoor
