/- What a store, a barrier, a branch, an operation on registers and an exclusive store do. -/
import Derived.Test.YtgaannoghefbbaaDoorFlowLoad
namespace Go.Proofs.YtgaannoghefbbaaDoor
open Go.RowKit
attribute [local go_sem] Ext.cell Ext.frozen

/-- The kinds of barriers lie in their block. -/
def Bar (w : World) : Prop := w.cell? ⟨0, 0, none⟩ = some (.int .i64 3) ∧ w.cell? ⟨0, 1, none⟩ = some (.int .i64 4) ∧ w.cell? ⟨0, 2, none⟩ = some (.int .i64 5)
theorem Bar.below {w w' : World} (h : Bar w) (hb : Below w.heap.size w w') : Bar w' := ⟨cell_keep h.1 hb, cell_keep h.2.1 hb, cell_keep h.2.2 hb⟩

set_option maxHeartbeats 4000000 in
theorem store_run (x : Ins) {w : World} {b base : Nat} {locs : Int} {vv lv : Value} {r : Nat → Value} {s : St} (T : Tab w) (h : RunAt w b base locs vv lv r s) (hl : LenOk s) (hL : locs < 9223372036854775808) :
    Calls Tryd.prog 41 #[.pointer (some ⟨b, 0, none⟩), .agg #[.int .i64 x.op, .int .i64 x.d, .int .i64 x.a, .int .i64 x.b, .int .i64 x.l, .int .i64 x.i]] w fun y w' =>
      y = .returned (.tuple #[]) ∧ Post b base locs vv lv r w (s.write locs x (-1)) w' := by
  have B1 := below_new w (.cells #[.int .i64 x.op, .int .i64 x.d, .int .i64 x.a, .int .i64 x.b, .int .i64 x.l, .int .i64 x.i] 29)
  have HW : Hid (Calls _ _ _ _ _) := write_run x (-1) (T.below B1) (h.keep B1) hl hL
  go_enter Tryd.func41, Tryd.ntmps41
  go_wp2_with (go_at_call 59; refine HW.out.mono ?_; rintro e w2 ⟨rfl, hp⟩)
  go_returns
  exact ⟨rfl, Post.ahead B1 hp⟩

set_option maxHeartbeats 4000000 in
theorem isb_run (x : Ins) {w : World} {b base : Nat} {locs : Int} {vv lv : Value} {r : Nat → Value} {s : St} (h : RunAt w b base locs vv lv r s) (hl : LenOk s) :
    Calls Tryd.prog 44 #[.pointer (some ⟨b, 0, none⟩), .agg #[.int .i64 x.op, .int .i64 x.d, .int .i64 x.a, .int .i64 x.b, .int .i64 x.l, .int .i64 x.i]] w fun y w' =>
      y = .returned (.tuple #[]) ∧ Post b base locs vv lv r w (s.add (brEv 6) 0 0 (-1)) w' := by
  have B1 := below_new w (.cells #[.int .i64 x.op, .int .i64 x.d, .int .i64 x.a, .int .i64 x.b, .int .i64 x.l, .int .i64 x.i] 29)
  have HW : Hid (Calls _ _ _ _ _) := add_run (brEv 6) 0 0 (-1) (h.keep B1) hl
  go_enter Tryd.func44, Tryd.ntmps44
  go_wp2_with (go_at_call 57; refine HW.out.mono ?_; rintro e w2 ⟨rfl, hp⟩)
  go_returns
  exact ⟨rfl, Post.ahead B1 hp⟩

set_option maxHeartbeats 4000000 in
theorem dmb_run (x : Ins) {w : World} {b base : Nat} {locs : Int} {vv lv : Value} {r : Nat → Value} {s : St} (T : Bar w) (h : RunAt w b base locs vv lv r s) (hl : LenOk s) (hi : 0 ≤ x.i ∧ x.i ≤ 2) :
    Calls Tryd.prog 43 #[.pointer (some ⟨b, 0, none⟩), .agg #[.int .i64 x.op, .int .i64 x.d, .int .i64 x.a, .int .i64 x.b, .int .i64 x.l, .int .i64 x.i]] w fun y w' =>
      y = .returned (.tuple #[]) ∧ Post b base locs vv lv r w (s.add (brEv (3 + x.i)) 0 0 (-1)) w' := by
  have B1 := below_new w (.cells #[.int .i64 x.op, .int .i64 x.d, .int .i64 x.a, .int .i64 x.b, .int .i64 x.l, .int .i64 x.i] 29)
  have HW : Hid (Calls _ _ _ _ _) := add_run (brEv (3 + x.i)) 0 0 (-1) (h.keep B1) hl
  obtain ⟨t0, t1, t2⟩ := T
  have lt0 := cell_lt t0
  have hi3 : x.i = 0 ∨ x.i = 1 ∨ x.i = 2 := by omega
  clear hi
  rcases hi3 with hi | hi | hi
  all_goals
    rw [hi] at HW B1
    go_enter Tryd.func43, Tryd.ntmps43
    go_wp2_with (go_at_call 57; refine HW.out.mono ?_; rintro e w2 ⟨rfl, hp⟩)
    go_returns
    refine ⟨rfl, ?_⟩
    rw [hi]
    exact Post.ahead B1 hp

set_option maxHeartbeats 4000000 in
theorem branch_run (x : Ins) {w : World} {b base : Nat} {locs : Int} {vv lv : Value} {r : Nat → Value} {s : St} (h : RunAt w b base locs vv lv r s) (hi : 0 ≤ x.i ∧ x.i ≤ 1000) (hn : s.next ≤ 1000) :
    Calls Tryd.prog 45 #[.pointer (some ⟨b, 0, none⟩), .agg #[.int .i64 x.op, .int .i64 x.d, .int .i64 x.a, .int .i64 x.b, .int .i64 x.l, .int .i64 x.i]] w fun y w' =>
      y = .returned (.tuple #[]) ∧ Post b base locs vv lv r w (s.branch x) w' := by
  have hwr : wrap64 ((s.next : Int) + x.i) = (s.next : Int) + x.i := wrap_is (by omega) (by omega)
  have hnx : (s.next : Int) + x.i = ((s.next + x.i.toNat : Nat) : Int) := by omega
  have HNX : Hid _ := hnx
  clear hnx
  have hGet := fun n w => Get_any s.v s.d n w
  unfold fileV at hGet
  have HGet : Hid _ := hGet
  clear hGet
  have hne : ∀ w, Nonempty (Ext w) := ext_some
  have hne2 : Nonempty AnyW := anyW_some
  go_enter Tryd.func45, Tryd.ntmps45
  go_wp2
  obtain ⟨w1, hw1, B1, kI⟩ : ∃ w1, w1 = w.alloc (.cells #[.int .i64 x.op, .int .i64 x.d, .int .i64 x.a, .int .i64 x.b, .int .i64 x.l, .int .i64 x.i] 29) ∧ Below w.heap.size w w1 ∧ InsB w1 w.heap.size x.op x.d x.a x.b x.l x.i :=
    ⟨_, rfl, below_new _ _, Blk.new⟩
  rw [← hw1]
  clear hw1
  have h1 := h.keep B1
  obtain ⟨y0, y1, y2, y3, y4, y5⟩ := kI.cells
  have lI := kI.lt
  have lB := h1.blk.lt
  obtain ⟨⟨r0, r1, r2, r3⟩, r4, r5, r6, r7⟩ := h1.blk.regs
  simp only [St.tail] at r0 r1 r2 r3 r4 r5 r6 r7
  refine wp_region_ext (by kernel_rfl) (by kernel_rfl) ?_
  repeat (go_big_quiet_step ((go_at_call 61; exact calls_ext (HGet.out _ _))))
  refine wpQuiet_nil ?_
  rintro _ ⟨p, rfl⟩
  have B2 : Below w.heap.size w p.wd := Below.thru B1 p.ok (Nat.le_refl _)
  have kI2 := kI.keep p.ok
  obtain ⟨w2, hw2⟩ : ∃ w2, w2 = p.wd := ⟨_, rfl⟩
  rw [← hw2] at B2 kI2 ⊢
  clear hw2 kI h1 B1 p w1 y0 y1 y2 y3 y4 y5 lI r0 r1 r2 r3 r4 r5 r6 r7 lB
  have h2 := h.keep B2
  obtain ⟨y0, y1, y2, y3, y4, y5⟩ := kI2.cells
  have lI := kI2.lt
  have lB := h2.blk.lt
  obtain ⟨-, -, -, -, m7, -⟩ := h2.blk.more
  have f7 := h2.blk.frozen 20
  simp only [St.tail] at m7
  have hnI : ¬ RS b r w.heap.size := fun hk => by have := (h.rs hk).2; omega
  have hIb : ¬ w.heap.size = b := fun e => hnI (.inl e)
  have O3 : Only (RS b r) w (w2.setCell ⟨b, 20, none⟩ (.int .u32 (bits .or .u32 s.ctrl (atR s.d x.a)))) := (Below.only B2).trans only_set (fun _ h => .inl h)
  have h3 := h2.setCtrl (bits .or .u32 s.ctrl (atR s.d x.a))
  have kI3 : InsB (w2.setCell ⟨b, 20, none⟩ (.int .u32 (bits .or .u32 s.ctrl (atR s.d x.a)))) w.heap.size x.op x.d x.a x.b x.l x.i := Blk.only kI2 (only_set (r := r)) hnI
  cases hc : ((atR s.v x.a == 0) == (x.op == 13))
  · have E : Hid (s.branch x = { s with ctrl := bits .or .u32 s.ctrl (atR s.d x.a) }) := by unfold St.branch Hid; rw [hc]; rfl
    go_wp2
    go_returns
    refine ⟨rfl, r, ?_, O3, fun _ h => .inl h⟩
    rw [E.out]
    exact h3
  · have E : Hid (s.branch x = { s with ctrl := bits .or .u32 s.ctrl (atR s.d x.a), next := s.next + x.i.toNat }) := by unfold St.branch Hid; rw [hc]; rfl
    go_wp2
    obtain ⟨w3, hw3⟩ : ∃ w3, w3 = w2.setCell ⟨b, 20, none⟩ (.int .u32 (bits .or .u32 s.ctrl (atR s.d x.a))) := ⟨_, rfl⟩
    rw [← hw3] at O3 h3 kI3 ⊢
    clear hw3 f7 m7 y0 y1 y2 y3 y4 y5 lI lB h2 kI2 B2 w2
    obtain ⟨y0, y1, y2, y3, y4, y5⟩ := kI3.cells
    have lI := kI3.lt
    have lB := h3.blk.lt
    obtain ⟨-, -, -, m6, -, -⟩ := h3.blk.more
    have f6 := h3.blk.frozen 19
    simp only [St.tail] at m6
    refine wp_region_mixL [([0, 1, 2, 3, 4, 5, 6, 7, 8], 9, true)] [] [9] (by kernel_rfl) (by kernel_rfl) (fun _ _ d _ _ h => by cases d <;> exact h) ?_
    dsimp only [mapL, List.map, opAt]
    refine wpMixL_stage ?_
    repeat (go_big_quiet_step (fail))
    refine wpQuiet_nil ?_
    have h4 : RunAt w3.drew b base locs vv lv r { s with ctrl := bits .or .u32 s.ctrl (atR s.d x.a) } := h3.keep (Below.drew (Below.refl _ _))
    go_wp2
    refine ⟨.inl trivial, ?_⟩
    refine wpMixL_last ?_
    refine wpQuiet_nil ?_
    go_wp2
    go_returns
    refine ⟨rfl, r, ?_, O3.trans ((Below.only (Below.drew (Below.refl _ _)) : Only (RS b r) w3 w3.drew).trans only_set fun _ h => .inl h) (fun _ h => .inl h), fun _ h => .inl h⟩
    rw [E.out]
    exact h4.setNext HNX.out

set_option maxHeartbeats 4000000 in
theorem reckon_run (x : Ins) {w : World} {b base : Nat} {locs : Int} {vv lv : Value} {r : Nat → Value} {s : St} (T : Tab w) (h : RunAt w b base locs vv lv r s) (h1 : 1 ≤ x.op) (h4 : x.op ≤ 4) :
    Calls Tryd.prog 46 #[.pointer (some ⟨b, 0, none⟩), .agg #[.int .i64 x.op, .int .i64 x.d, .int .i64 x.a, .int .i64 x.b, .int .i64 x.l, .int .i64 x.i]] w fun y w' =>
      y = .returned (.tuple #[]) ∧ Post b base locs vv lv r w { s with v := doV s.v x.op x.d x.a x.b x.i, d := doD s.d x.op x.d x.a x.b } w' := by
  have hDo := fun w T => Do_in s.v s.d x.op x.d x.a x.b x.l x.i w T h1 h4
  unfold fileV at hDo
  have HDo : Hid _ := hDo
  clear hDo h1 h4
  have hne : ∀ w, Nonempty (Ext w) := ext_some
  have hne2 : Nonempty AnyW := anyW_some
  go_enter Tryd.func46, Tryd.ntmps46
  go_wp2
  obtain ⟨w1, hw1, B1, kI⟩ : ∃ w1, w1 = w.alloc (.cells #[.int .i64 x.op, .int .i64 x.d, .int .i64 x.a, .int .i64 x.b, .int .i64 x.l, .int .i64 x.i] 29) ∧ Below w.heap.size w w1 ∧ InsB w1 w.heap.size x.op x.d x.a x.b x.l x.i :=
    ⟨_, rfl, below_new _ _, Blk.new⟩
  rw [← hw1]
  clear hw1
  have h1 := h.keep B1
  have T1 := T.below B1
  obtain ⟨y0, y1, y2, y3, y4, y5⟩ := kI.cells
  have lI := kI.lt
  have lB := h1.blk.lt
  obtain ⟨⟨r0, r1, r2, r3⟩, r4, r5, r6, r7⟩ := h1.blk.regs
  simp only [St.tail] at r0 r1 r2 r3 r4 r5 r6 r7
  refine wp_region_mixL [([0, 1, 2, 3, 4, 5, 6], 7, false), ([8, 9, 10], 11, true)] [] [11] (by kernel_rfl) (by kernel_rfl) (fun _ _ d _ _ h => by cases d <;> exact h) ?_
  dsimp only [mapL, List.map, opAt]
  refine wpMixL_stage ?_
  repeat (go_big_quiet_step (fail))
  refine wpQuiet_nil ?_
  go_wp2_with (go_at_call 62; refine (HDo.out _ (T1.below (Below.drew (Below.refl _ _)))).mono ?_; rintro e w7 ⟨rfl, hbw7⟩)
  have Bw7 : Below w1.heap.size w1 w7 := Below.thru (Below.drew (Below.refl _ _)) hbw7 (Nat.le_refl _)
  refine ⟨.inr Bw7, ?_⟩
  refine wpMixL_stage ?_
  repeat (go_big_quiet_step (fail))
  refine wpQuiet_nil ?_
  have hw7 := h1.keep Bw7
  obtain ⟨⟨t0, t1, t2, t3⟩, t4, t5, t6, t7⟩ := hw7.blk.regs
  have u0 := hw7.blk.frozen 5
  have u1 := hw7.blk.frozen 6
  have u2 := hw7.blk.frozen 7
  have u3 := hw7.blk.frozen 8
  have u4 := hw7.blk.frozen 9
  have u5 := hw7.blk.frozen 10
  have u6 := hw7.blk.frozen 11
  have u7 := hw7.blk.frozen 12
  go_wp2
  have hZ := hw7.putR (doV s.v x.op x.d x.a x.b x.i) (doD s.d x.op x.d x.a x.b)
  obtain ⟨wZ, hwZ⟩ : ∃ wZ, wZ = putR w7 b (doV s.v x.op x.d x.a x.b x.i) (doD s.d x.op x.d x.a x.b) := ⟨_, rfl⟩
  have OZ : Only (RS b r) w7 wZ := by rw [hwZ]; exact only_putR
  rw [← hwZ] at hZ
  unfold putR at hwZ
  rw [← hwZ]
  clear hwZ
  refine ⟨.inl trivial, ?_⟩
  refine wpMixL_last ?_
  refine wpQuiet_nil ?_
  go_wp2
  go_returns
  exact ⟨rfl, r, hZ, ((Below.only B1).trans (Below.only Bw7) fun _ h => .inl h).trans OZ (fun _ h => .inl h), fun _ h => .inl h⟩

end Go.Proofs.YtgaannoghefbbaaDoor
