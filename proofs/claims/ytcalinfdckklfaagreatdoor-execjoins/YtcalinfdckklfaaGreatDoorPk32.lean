/- FlowRef7: FlowRef7, FlowRef7b, in one text. -/
import Derived.Test.YtcalinfdckklfaaGreatDoorPk3
import Derived.Test.YtcalinfdckklfaaGreatDoorPk4
import Derived.Test.YtcalinfdckklfaaGreatDoorPk21
import Derived.Test.YtcalinfdckklfaaGreatDoorPk1
namespace Go.Proofs.YtcalinfdckklfaaGreatDoor
open Go.RowKit
attribute [local go_sem] Ext.cell Ext.frozen

set_option maxHeartbeats 2000000 in
theorem rGet_any (v d : Nat → Int) (n : Int) (w : World) : Calls Tryz.prog 107 #[fileV v d, .int .i64 n] w fun e w' => e = .returned (.tuple #[.int .i64 (atR v n), .int .u32 (atR d n)]) ∧ Below w.heap.size w w' := by
  unfold fileV
  rcases reg_cases n with h | h | h | h | h
  case inr.inr.inr.inr =>
    rw [atR_out v h, atR_out d h]
    rcases h with h | h
    all_goals
      go_enter Tryz.func107, Tryz.ntmps107
      go_wp2
      go_returns
      exact ⟨rfl, by go_grown⟩
  all_goals
    subst h
    go_enter Tryz.func107, Tryz.ntmps107
    go_wp2
    have hne : ∀ w, Nonempty (Ext w) := ext_some
    refine wp_region_ext (by kernel_rfl) (by kernel_rfl) ?_
    repeat (go_big_quiet_step (fail))
    refine wpQuiet_nil ?_
    rintro _ ⟨rr, rfl⟩
    go_wp2
    go_returns
    exact ⟨rfl, Below.thru ((Below.refl _ _).alloc (Nat.le_refl _) _) (rr.ok) (by simp)⟩

set_option maxHeartbeats 4000000 in
theorem rSet_any (v d : Nat → Int) (n x y : Int) (w : World) : Calls Tryz.prog 110 #[fileV v d, .int .i64 n, .int .i64 x, .int .u32 y] w fun e w' => e = .returned (fileV (upd v n x) (upd d n y)) ∧ Below w.heap.size w w' := by
  rcases reg_cases n with h | h | h | h | h
  case inr.inr.inr.inr =>
    rw [fileV_out v d x y h]
    unfold fileV
    rcases h with h | h
    all_goals
      go_enter Tryz.func110, Tryz.ntmps110
      go_wp2
      go_returns
      exact ⟨rfl, by go_grown⟩
  all_goals
    subst h
    first | rw [Set_0] | rw [Set_1] | rw [Set_2] | rw [Set_3]
    unfold fileV
    go_enter Tryz.func110, Tryz.ntmps110
    go_wp2
    go_returns
    exact ⟨rfl, by go_grown⟩

theorem rbits_any (a b : Int) (w : World) : Calls Tryz.prog 128 #[.int .u32 a, .int .u32 b] w fun e w' => e = .returned (.int .u32 (bits .or .u32 a b)) ∧ w' = w := by
  go_enter Tryz.func128, Tryz.ntmps128
  go_wp2
  go_ret
  exact ⟨rfl, rfl⟩

/-- Sets of 32 bits. -/
def DepOk (d : Nat → Int) : Prop := ∀ k, 0 ≤ d k ∧ d k < 4294967296
theorem atR_dep {d : Nat → Int} (h : DepOk d) (n : Int) : 0 ≤ atR d n ∧ atR d n < 4294967296 := by
  unfold atR
  split
  · exact h _
  · omega
theorem hang_is {d : Nat → Int} (h : DepOk d) {op a b : Int} (ho : op = 2 ∨ op = 3 ∨ op = 4) (ha : 0 ≤ a ∧ a < 4) (hb : 0 ≤ b ∧ b < 4) : hangF d (usesL op a b) 0 = bits .or .u32 (atR d a) (atR d b) := by
  obtain ⟨m, rfl⟩ : ∃ m : Nat, a = (m : Int) := ⟨a.toNat, by omega⟩
  obtain ⟨n, rfl⟩ : ∃ n : Nat, b = (n : Int) := ⟨b.toNat, by omega⟩
  rw [uses_two ho, hangF, hangF, hangF, or_0 (atR_dep h _).1 (atR_dep h _).2]

set_option maxHeartbeats 8000000 in
theorem rDo_in (v d : Nat → Int) (op xd xa xb l i : Int) (w : World) (hd : DepOk d) (h1 : 1 ≤ op) (h4 : op ≤ 4) (ha : op ≠ 1 → 0 ≤ xa ∧ xa < 4) (hb : op ≠ 1 → 0 ≤ xb ∧ xb < 4) : Calls Tryz.prog 108 #[fileV v d, .agg #[.int .i64 op, .int .i64 xd, .int .i64 xa, .int .i64 xb, .int .i64 l, .int .i64 i]] w fun e w' =>
    e = .returned (fileV (doV v op xd xa xb i) (doD d op xd xa xb)) ∧ Below w.heap.size w w' := by
  have hop : op = 1 ∨ op = 2 ∨ op = 3 ∨ op = 4 := by omega
  have hD : doD d op xd xa xb = upd d xd (if op = 1 then 0 else bits .or .u32 (atR d xa) (atR d xb)) := by
    unfold doD
    by_cases e : op = 1
    · rw [if_pos e, e, uses_mov]; rfl
    · rw [if_neg e, hang_is hd (by omega) (ha e) (hb e)]
  rw [hD]
  clear hD hd ha hb h1 h4
  have hGet := fun n w => rGet_any v d n w
  have hSet := fun n x y w => rSet_any v d n x y w
  unfold doV
  unfold fileV at hGet hSet ⊢
  have HGet : Hid _ := hGet
  have HSet : Hid _ := hSet
  clear hGet hSet
  have hne : ∀ w, Nonempty (Ext w) := ext_some
  have hne2 : Nonempty AnyW := anyW_some
  have hb0 := (((Below.refl w.heap.size w).alloc (Nat.le_refl _) (.cells #[.int .i64 (v 0), .int .i64 (v 1), .int .i64 (v 2), .int .i64 (v 3), .int .u32 (d 0), .int .u32 (d 1), .int .u32 (d 2), .int .u32 (d 3)] 32)).alloc (by simp) (.cells #[.int .i64 op, .int .i64 xd, .int .i64 xa, .int .i64 xb, .int .i64 l, .int .i64 i] 72)).alloc (by simp; omega) (.cells #[.int .i64 0, .int .i64 0, .int .i64 0, .int .i64 0, .int .u32 0, .int .u32 0, .int .u32 0, .int .u32 0] 32)
  go_enter Tryz.func108, Tryz.ntmps108
  go_wp2_with fail
  obtain ⟨w0, hw0, kF, kI, kR⟩ : ∃ w0, w0 = (((w.alloc (Obj.cells #[.int .i64 (v 0), .int .i64 (v 1), .int .i64 (v 2), .int .i64 (v 3), .int .u32 (d 0), .int .u32 (d 1), .int .u32 (d 2), .int .u32 (d 3)] 32)).alloc (Obj.cells #[.int .i64 op, .int .i64 xd, .int .i64 xa, .int .i64 xb, .int .i64 l, .int .i64 i] 72)).alloc (Obj.cells #[.int .i64 0, .int .i64 0, .int .i64 0, .int .i64 0, .int .u32 0, .int .u32 0, .int .u32 0, .int .u32 0] 32)) ∧
      FileAt w0 w.heap.size v d 32 ∧ InsB w0 (w.heap.size + 1) op xd xa xb l i ∧ FileAt w0 (w.heap.size + 1 + 1) (fun _ => 0) (fun _ => 0) 32 :=
    ⟨_, rfl, (Blk.new.alloc _).alloc _, (Blk.newAt (by simp)).alloc _, Blk.newAt (by simp)⟩
  rw [← hw0] at hb0 ⊢
  clear hw0
  refine (HGet.out _ _).mono ?_
  rintro e w1 ⟨rfl, hb1⟩
  have kF1 := kF.keep hb1
  have kI1 := kI.keep hb1
  have kR1 := kR.keep hb1
  have B1 : Below w.heap.size w w1 := Below.thru hb0 hb1 (Nat.le_refl _)
  clear hb0 hb1 kF kI kR
  obtain ⟨⟨f0, f1, f2, f3⟩, f4, f5, f6, f7⟩ := kF1.cells
  obtain ⟨i0, i1, i2, i3, i4, i5⟩ := kI1.cells
  have lF := kF1.lt
  have lI := kI1.lt
  go_wp2_with fail
  refine (HGet.out _ _).mono ?_
  rintro e w2 ⟨rfl, hb2⟩
  have kF2 := kF1.keep hb2
  have kI2 := kI1.keep hb2
  have kR2 := kR1.keep hb2
  have B2 : Below w.heap.size w w2 := Below.thru B1 hb2 (Nat.le_refl _)
  clear B1 hb2 kF1 kI1 kR1 f0 f1 f2 f3 f4 f5 f6 f7 i0 i1 i2 i3 i4 i5 lF lI
  obtain ⟨⟨f0, f1, f2, f3⟩, f4, f5, f6, f7⟩ := kF2.cells
  obtain ⟨i0, i1, i2, i3, i4, i5⟩ := kI2.cells
  have lF := kF2.lt
  have lI := kI2.lt
  rcases hop with hop | hop | hop | hop
  · subst hop
    have F1 := trivial
    go_wp2_with (first
      | (go_at_call 110; clear F1; refine (HSet.out _ _ _ _).mono ?_; rintro e w3 ⟨rfl, hb3⟩; have kR3 := kR2.keep hb3; have F2 := trivial)
      | (clear F2; refine wpList_storeB (by rfl) 32 (.tmp 4) (.tmp 32) (by rfl) (w.heap.size + 1 + 1) _ _ 32 (by rfl) (by rfl) kR3 (by kernel_rfl) (by rfl) (by simp [Value.oneCell']) ?_; intro wL kL oL zL; simp only [Act.put]))
    have kL' : FileAt wL (w.heap.size + 1 + 1) (upd v xd i) (upd d xd 0) 32 := kL
    obtain ⟨⟨r0, r1, r2, r3⟩, r4, r5, r6, r7⟩ := kL'.cells
    have BL : Below w.heap.size w wL := (Below.thru B2 hb3 (Nat.le_refl _)).trans (oL.below (Nat.le_trans B2.size hb3.size) (fun k hk => by omega))
    exact bodyPost_ret (v := fileV (upd v xd i) (upd d xd 0)) (by simp [results, Tryz.results108, go_sem, fileV, r0, r1, r2, r3, r4, r5, r6, r7]) rfl ⟨rfl, BL⟩
  · subst hop
    go_wp2
    refine wp_region_mixL [([0, 1, 2, 3, 4, 5, 6, 7], 8, false), ([], 9, false), ([], 10, true)] [] [10] (by kernel_rfl) (by kernel_rfl) (fun _ _ d _ _ h => by cases d <;> exact h) ?_
    dsimp only [mapL, List.map, opAt]
    refine wpMixL_stage ?_
    repeat (go_big_quiet_step (fail))
    refine wpQuiet_nil ?_
    go_wp2_with (go_at_call 128; refine (rbits_any _ _ _).mono ?_; rintro e w3 ⟨rfl, rfl⟩)
    refine ⟨.inr (Below.drew (Below.refl _ _)), ?_⟩
    refine wpMixL_stage ?_
    refine wpQuiet_nil ?_
    go_wp2_with (go_at_call 110; refine (HSet.out _ _ _ _).mono ?_; rintro e w4 ⟨rfl, hb4⟩)
    have hb5 : Below w2.heap.size w2 w4 := Below.thru (Below.drew (Below.refl _ _)) hb4 (Nat.le_refl _)
    have kR3 := kR2.keep hb5
    refine ⟨.inr hb5, ?_⟩
    refine wpMixL_stage ?_
    refine wpQuiet_nil ?_
    refine wpList_storeB (by rfl) 32 (.tmp 4) (.tmp 44) (by rfl) (w.heap.size + 1 + 1) _ _ 32 (by rfl) (by rfl) kR3 (by kernel_rfl) (by rfl) (by simp [Value.oneCell']) ?_
    intro wL kL oL zL
    simp only [Act.put]
    go_wp2
    refine ⟨.inl trivial, ?_⟩
    refine wpMixL_last ?_
    refine wpQuiet_nil ?_
    go_wp2
    have kL' : FileAt wL (w.heap.size + 1 + 1) (upd v xd (wrap64 (atR v xa + atR v xb))) (upd d xd (bits .or .u32 (atR d xa) (atR d xb))) 32 := kL
    obtain ⟨⟨r0, r1, r2, r3⟩, r4, r5, r6, r7⟩ := kL'.cells
    have BL : Below w.heap.size w wL := (Below.thru B2 hb5 (Nat.le_refl _)).trans (oL.below (Nat.le_trans B2.size hb5.size) (fun k hk => by omega))
    exact bodyPost_ret (v := fileV (upd v xd (wrap64 (atR v xa + atR v xb))) (upd d xd (bits .or .u32 (atR d xa) (atR d xb)))) (by simp [results, Tryz.results108, go_sem, fileV, r0, r1, r2, r3, r4, r5, r6, r7]) rfl ⟨rfl, BL⟩
  · subst hop
    go_wp2
    refine wp_region_mixL [([0, 1, 2, 3, 4, 5, 6, 7], 8, false), ([], 9, false), ([], 10, true)] [] [10] (by kernel_rfl) (by kernel_rfl) (fun _ _ d _ _ h => by cases d <;> exact h) ?_
    dsimp only [mapL, List.map, opAt]
    refine wpMixL_stage ?_
    repeat (go_big_quiet_step (fail))
    refine wpQuiet_nil ?_
    go_wp2_with (go_at_call 128; refine (rbits_any _ _ _).mono ?_; rintro e w3 ⟨rfl, rfl⟩)
    refine ⟨.inr (Below.drew (Below.refl _ _)), ?_⟩
    refine wpMixL_stage ?_
    refine wpQuiet_nil ?_
    go_wp2_with (go_at_call 110; refine (HSet.out _ _ _ _).mono ?_; rintro e w4 ⟨rfl, hb4⟩)
    have hb5 : Below w2.heap.size w2 w4 := Below.thru (Below.drew (Below.refl _ _)) hb4 (Nat.le_refl _)
    have kR3 := kR2.keep hb5
    refine ⟨.inr hb5, ?_⟩
    refine wpMixL_stage ?_
    refine wpQuiet_nil ?_
    refine wpList_storeB (by rfl) 32 (.tmp 4) (.tmp 56) (by rfl) (w.heap.size + 1 + 1) _ _ 32 (by rfl) (by rfl) kR3 (by kernel_rfl) (by rfl) (by simp [Value.oneCell']) ?_
    intro wL kL oL zL
    simp only [Act.put]
    go_wp2
    refine ⟨.inl trivial, ?_⟩
    refine wpMixL_last ?_
    refine wpQuiet_nil ?_
    go_wp2
    have kL' : FileAt wL (w.heap.size + 1 + 1) (upd v xd (bits .xor .i64 (atR v xa) (atR v xb))) (upd d xd (bits .or .u32 (atR d xa) (atR d xb))) 32 := kL
    obtain ⟨⟨r0, r1, r2, r3⟩, r4, r5, r6, r7⟩ := kL'.cells
    have BL : Below w.heap.size w wL := (Below.thru B2 hb5 (Nat.le_refl _)).trans (oL.below (Nat.le_trans B2.size hb5.size) (fun k hk => by omega))
    exact bodyPost_ret (v := fileV (upd v xd (bits .xor .i64 (atR v xa) (atR v xb))) (upd d xd (bits .or .u32 (atR d xa) (atR d xb)))) (by simp [results, Tryz.results108, go_sem, fileV, r0, r1, r2, r3, r4, r5, r6, r7]) rfl ⟨rfl, BL⟩
  · subst hop
    go_wp2
    refine wp_region_mixL [([0, 1, 2, 3, 4, 5, 6, 7], 8, false), ([], 9, false), ([], 10, true)] [] [10] (by kernel_rfl) (by kernel_rfl) (fun _ _ d _ _ h => by cases d <;> exact h) ?_
    dsimp only [mapL, List.map, opAt]
    refine wpMixL_stage ?_
    repeat (go_big_quiet_step (fail))
    refine wpQuiet_nil ?_
    go_wp2_with (go_at_call 128; refine (rbits_any _ _ _).mono ?_; rintro e w3 ⟨rfl, rfl⟩)
    refine ⟨.inr (Below.drew (Below.refl _ _)), ?_⟩
    refine wpMixL_stage ?_
    refine wpQuiet_nil ?_
    go_wp2_with (go_at_call 110; refine (HSet.out _ _ _ _).mono ?_; rintro e w4 ⟨rfl, hb4⟩)
    have hb5 : Below w2.heap.size w2 w4 := Below.thru (Below.drew (Below.refl _ _)) hb4 (Nat.le_refl _)
    have kR3 := kR2.keep hb5
    refine ⟨.inr hb5, ?_⟩
    refine wpMixL_stage ?_
    refine wpQuiet_nil ?_
    refine wpList_storeB (by rfl) 32 (.tmp 4) (.tmp 68) (by rfl) (w.heap.size + 1 + 1) _ _ 32 (by rfl) (by rfl) kR3 (by kernel_rfl) (by rfl) (by simp [Value.oneCell']) ?_
    intro wL kL oL zL
    simp only [Act.put]
    go_wp2
    refine ⟨.inl trivial, ?_⟩
    refine wpMixL_last ?_
    refine wpQuiet_nil ?_
    go_wp2
    have kL' : FileAt wL (w.heap.size + 1 + 1) (upd v xd (bits .and .i64 (atR v xa) (atR v xb))) (upd d xd (bits .or .u32 (atR d xa) (atR d xb))) 32 := kL
    obtain ⟨⟨r0, r1, r2, r3⟩, r4, r5, r6, r7⟩ := kL'.cells
    have BL : Below w.heap.size w wL := (Below.thru B2 hb5 (Nat.le_refl _)).trans (oL.below (Nat.le_trans B2.size hb5.size) (fun k hk => by omega))
    exact bodyPost_ret (v := fileV (upd v xd (bits .and .i64 (atR v xa) (atR v xb))) (upd d xd (bits .or .u32 (atR d xa) (atR d xb)))) (by simp [results, Tryz.results108, go_sem, fileV, r0, r1, r2, r3, r4, r5, r6, r7]) rfl ⟨rfl, BL⟩

end Go.Proofs.YtcalinfdckklfaaGreatDoor

namespace Go.Proofs.YtcalinfdckklfaaGreatDoor
open Go.RowKit

theorem tmod_bd {m : Int} (hm : 0 < m) (a : Int) : -m ≤ a.tmod m ∧ a.tmod m < m := by
  have h1 := Int.emod_nonneg a (Int.ne_of_gt hm)
  have h2 := Int.emod_lt_of_pos a hm
  by_cases h : a.tmod m < 0
  · have := tmod_neg hm h; omega
  · have := tmod_pos (a := a) hm (by omega); omega
theorem tmod_key {m : Int} (hm : 0 < m) (a : Int) : a.tmod m % m = a % m := by
  by_cases h : a.tmod m < 0
  · have := tmod_neg hm h
    rw [show a.tmod m = a % m - m by omega, Int.sub_emod_right, Int.emod_emod_of_dvd _ (Int.dvd_refl m)]
  · rw [tmod_pos (a := a) hm (by omega), Int.emod_emod_of_dvd _ (Int.dvd_refl m)]
theorem place_is {l n m : Int} (hm : 0 < m) : ((l.tmod m + n.tmod m).tmod m + m) % m = (l + n) % m := by
  rw [Int.add_emod_right, tmod_key hm, Int.add_emod, tmod_key hm, tmod_key hm, ← Int.add_emod]

theorem rKind_eq (op d a b l i k : Int) (w : World) (h : kindZ op = k) :
    Calls Tryz.prog 74 #[.agg #[.int .i64 op, .int .i64 d, .int .i64 a, .int .i64 b, .int .i64 l, .int .i64 i]] w fun e w' => e = .returned (.int .i64 k) ∧ Below w.heap.size w w' := by
  subst h; exact refKind_any op d a b l i w

set_option maxHeartbeats 4000000 in
theorem rPlace_any (v d : Nat → Int) (op xd a b l i locs : Int) (w : World) (h1 : 1 ≤ locs) (h3 : locs ≤ 1000) : Calls Tryz.prog 106 #[fileV v d, .agg #[.int .i64 op, .int .i64 xd, .int .i64 a, .int .i64 b, .int .i64 l, .int .i64 i], .int .i64 locs] w fun e w' =>
    e = .returned (.tuple #[.int .i64 (placeZ v op a l locs), .int .u32 (placeD d op a locs)]) ∧ Below w.heap.size w w' := by
  obtain ⟨k, hk⟩ : ∃ k, kindZ op = k := ⟨_, rfl⟩
  have hl0 : locs ≠ 0 := by omega
  by_cases h0 : k = 0
  · rw [show placeZ v op a l locs = 0 from if_pos (.inl (hk.trans h0)), show placeD d op a locs = 0 from if_pos (.inl (hk.trans h0))]
    subst h0
    unfold fileV
    have HK : Hid _ := hk
    clear hk
    go_enter Tryz.func106, Tryz.ntmps106
    go_wp2_with (go_at_call 74; refine (rKind_eq _ _ _ _ _ _ _ _ HK.out).mono ?_; rintro e w1 ⟨rfl, hb⟩)
    go_returns
    exact ⟨rfl, (((Below.refl _ _).alloc (Nat.le_refl _) _).alloc (by simp) _).trans (hb.mono (by simp; omega))⟩
  · have hk0 : ¬ kindZ op = 0 := fun h => h0 (hk.symm.trans h)
    have hkb : (k == 0) = false := by simpa using h0
    have HK : Hid _ := hk
    clear hk
    have hm : 0 < locs := by omega
    rw [show placeZ v op a l locs = (l + atR v a) % locs from if_neg (by omega), show placeD d op a locs = atR d a from if_neg (by omega), ← place_is (l := l) (n := atR v a) hm]
    clear hk0 h0
    have hG := fun w => rGet_any v d a w
    unfold fileV at hG ⊢
    have HG : Hid _ := hG
    clear hG
    have b1 := tmod_bd hm l
    have b2 := tmod_bd hm (atR v a)
    have b3 := tmod_bd hm (l.tmod locs + (atR v a).tmod locs)
    have hw1 : wrap64 (l.tmod locs + (atR v a).tmod locs) = l.tmod locs + (atR v a).tmod locs := wrap_is (by omega) (by omega)
    have hw2 : wrap64 ((l.tmod locs + (atR v a).tmod locs).tmod locs + locs) = (l.tmod locs + (atR v a).tmod locs).tmod locs + locs := wrap_is (by omega) (by omega)
    go_enter Tryz.func106, Tryz.ntmps106
    go_wp2_with fail
    refine (rKind_eq _ _ _ _ _ _ _ _ HK.out).mono ?_
    rintro e w1 ⟨rfl, hb⟩
    obtain ⟨hc, hf⟩ := bcell hb
    have B1 : Below w.heap.size w w1 := (((Below.refl _ _).alloc (Nat.le_refl _) _).alloc (by simp) _).trans (hb.mono (by simp; omega))
    have hz1 : w.heap.size + 1 < w1.heap.size := by have := hb.size; simp at this; omega
    go_wp2_with fail
    refine (HG.out _).mono ?_
    rintro e w2 ⟨rfl, hb2⟩
    obtain ⟨hc2, hf2⟩ := bcell hb2
    have B2 : Below w.heap.size w w2 := Below.thru B1 hb2 (Nat.le_refl _)
    have hz2 : w.heap.size + 1 < w2.heap.size := by have := hb2.size; omega
    go_wp2
    go_returns
    exact ⟨rfl, B2⟩

theorem pow2_small {k : Nat} (h : k < 32) : (2 : Int) ^ k % 4294967296 = 2 ^ k := by
  have e : (2 : Int) ^ k = ((2 ^ k : Nat) : Int) := by simp
  have l : 2 ^ k < 2 ^ 32 := Nat.pow_lt_pow_right (by decide) h
  rw [e]
  exact Int.emod_eq_of_lt (Int.natCast_nonneg _) (Int.lt_of_lt_of_le (Int.ofNat_lt.2 l) (by decide))
/-- Two, so often. -/
theorem rpower_any (k : Nat) (w : World) (hk : k < 31) : Calls Tryz.prog 111 #[.int .i64 k] w fun e w' => e = .returned (.int .u32 (2 ^ k)) ∧ Below w.heap.size w w' := by
  go_enter Tryz.func111, Tryz.ntmps111
  go_wp2
  go_loopw [3, 4] (fun x i wr => ∃ j : Nat, j ≤ k ∧ i = .int .i64 j ∧ x = .int .u32 (2 ^ j) ∧ Below w.heap.size w wr) (fun _ i _ => k - (intOf i).toNat)
  case atStart => exact ⟨0, Nat.zero_le _, rfl, rfl, by go_grown⟩
  case round =>
    obtain ⟨j, hj, rfl, rfl, hB⟩ := hrel
    by_cases hlt : j < k
    · have hp : (2 * (2 : Int) ^ j) % 4294967296 = 2 ^ (j + 1) := by rw [← Int.pow_succ']; exact pow2_small (by omega)
      go_wp2
      go_roundw
      case rel => exact ⟨j + 1, by omega, by go_num, by rw [Int.pow_succ'], hB⟩
      case measure => simp [intOf]; omega
    · obtain rfl : j = k := by omega
      go_wp2
      go_returns
      exact ⟨rfl, hB⟩
theorem rfence_any (op d a b l i : Int) (w : World) (h : op = 12 ∨ (op ≠ 12 ∧ 0 ≤ i ∧ i ≤ 2)) : Calls Tryz.prog 112 #[.agg #[.int .i64 op, .int .i64 d, .int .i64 a, .int .i64 b, .int .i64 l, .int .i64 i]] w fun e w' => e = .returned (.int .i64 (if op = 12 then 6 else 3 + i)) ∧ Below w.heap.size w w' := by
  rcases h with h | ⟨h, h2, h3⟩
  · subst h
    go_enter Tryz.func112, Tryz.ntmps112
    go_wp2
    go_returns
    exact ⟨rfl, by go_grown⟩
  · rw [if_neg h]
    have hb : (op == 12) = false := by simpa using h
    have hw : wrap64 (3 + i) = 3 + i := wrap_is (by omega) (by omega)
    clear h
    go_enter Tryz.func112, Tryz.ntmps112
    go_wp2
    go_returns
    exact ⟨rfl, by go_grown⟩
end Go.Proofs.YtcalinfdckklfaaGreatDoor
