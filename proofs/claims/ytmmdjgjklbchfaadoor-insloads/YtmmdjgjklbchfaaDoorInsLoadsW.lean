/- The walk of InsLoads: true, at all instructions. -/
import Derived.Test.YtmmdjgjklbchfaaDoorInsShown
import Derived.Test.YtmmdjgjklbchfaaDoorInsFacts
import Derived.Test.YtmmdjgjklbchfaaDoorMix
namespace Go.Proofs.YtmmdjgjklbchfaaDoor
open Go.RowKit
attribute [local go_sem] Ext.cell Ext.frozen

theorem May_eq (op d a b l i behind locs : Int) (r : Bool) (w : World) (T : Tab w) (h : mayB op d a b l i behind locs = r) :
    Calls Tryd.prog 19 #[.agg #[.int .i64 op, .int .i64 d, .int .i64 a, .int .i64 b, .int .i64 l, .int .i64 i], .int .i64 behind, .int .i64 locs] w fun e w' => e = .returned (.bool r) ∧ Below w.heap.size w w' := by
  subst h; exact May_any op d a b l i behind locs w T

set_option maxHeartbeats 1000000 in
theorem InsLoads_no (op d a b l i behind locs : Int) (w : World) (T : Tab w) (hm : mayB op d a b l i behind locs = false) :
    Calls Tryd.prog 8 #[.agg #[.int .i64 op, .int .i64 d, .int .i64 a, .int .i64 b, .int .i64 l, .int .i64 i], .int .i64 behind, .int .i64 locs] w fun e w' => e = .returned (.bool true) ∧ Below w.heap.size w w' := by
  have HM : Hid _ := hm
  clear hm
  go_enter Tryd.func8, Tryd.ntmps8
  go_wp2_with fail
  refine (shown_any _ (T.alloc _)).mono ?_
  rintro e w1 ⟨rfl, hb⟩
  obtain ⟨hc, hf⟩ := bcell hb
  have B1 : Below w.heap.size w w1 := ((Below.refl _ _).alloc (Nat.le_refl _) _).trans (hb.mono (by simp))
  have hz1 : w.heap.size < w1.heap.size := by have := hb.size; simp at this; omega
  go_wp2_with fail
  refine (May_eq _ _ _ _ _ _ _ _ _ _ (T.below B1) HM.out).mono ?_
  rintro e w2 ⟨rfl, hb2⟩
  obtain ⟨hc2, hf2⟩ := bcell hb2
  have B2 : Below w.heap.size w w2 := B1.trans (hb2.mono B1.size)
  have hz2 : w.heap.size < w2.heap.size := by have := hb2.size; omega
  go_wp2
  go_ret
  exact ⟨rfl, B2⟩

set_option maxHeartbeats 4000000 in
theorem InsLoads_read (op d a b l i behind locs : Int) (w : World) (T : Tab w) (hm : mayB op d a b l i behind locs = true) (hk : kindZ op = 1) (ha : 0 ≤ a) :
    Calls Tryd.prog 8 #[.agg #[.int .i64 op, .int .i64 d, .int .i64 a, .int .i64 b, .int .i64 l, .int .i64 i], .int .i64 behind, .int .i64 locs] w fun e w' => e = .returned (.bool true) ∧ Below w.heap.size w w' := by
  have HM : Hid _ := hm
  have HK : Hid _ := hk
  obtain ⟨_, hD, hA, hB⟩ := kind_read hk
  have HU : Hid (usesL op a b = [a]) := by unfold Hid usesL; rw [hA, hB]; simp [ha]
  have HG : Hid (givesZ op d = d) := by unfold Hid givesZ; rw [hD]; rfl
  have hd : decide (a < 0) = false := decide_eq_false (by omega)
  clear hm hk hD hA hB
  go_enter Tryd.func8, Tryd.ntmps8
  go_wp2_with fail
  refine (shown_any _ (T.alloc _)).mono ?_
  rintro e w1 ⟨rfl, hb⟩
  obtain ⟨hc, hf⟩ := bcell hb
  have B1 : Below w.heap.size w w1 := ((Below.refl _ _).alloc (Nat.le_refl _) _).trans (hb.mono (by simp))
  have hz1 : w.heap.size < w1.heap.size := by have := hb.size; simp at this; omega
  go_wp2_with fail
  refine (May_eq _ _ _ _ _ _ _ _ _ _ (T.below B1) HM.out).mono ?_
  rintro e w2 ⟨rfl, hb2⟩
  obtain ⟨hc2, hf2⟩ := bcell hb2
  have B2 : Below w.heap.size w w2 := B1.trans (hb2.mono B1.size)
  have hz2 : w.heap.size < w2.heap.size := by have := hb2.size; omega
  go_wp2_with fail
  refine (Uses_any _ _ _ _ _ _ _ (T.below B2)).mono ?_
  rintro e w3 ⟨v, rfl, hown, hb3⟩
  rw [HU.out] at hown
  obtain ⟨hc3, hf3⟩ := bcell hb3
  have B3 : Below w.heap.size w w3 := B2.trans (hb3.mono B2.size)
  have hz3 : w.heap.size < w3.heap.size := by have := hb3.size; omega
  have HS : Hid (IntSl w3 _ _) := ints_own hown
  clear hown
  obtain ⟨p, cap, hv⟩ := intsl_len HS.out
  subst hv
  go_wp2_with fail
  refine (Kind_any _ _ _ _ _ _ _ (T.below B3)).mono ?_
  rintro e w4 ⟨rfl, hb4⟩
  rw [HK.out]
  obtain ⟨hc4, hf4⟩ := bcell hb4
  have B4 : Below w.heap.size w w4 := B3.trans (hb4.mono B3.size)
  have hz4 : w.heap.size < w4.heap.size := by have := hb4.size; omega
  have HS4 : Hid (IntSl w4 _ _) := IntSl.below HS.out hb4
  go_wp2
  have c0 : w4.cell? ⟨w.heap.size, 0, none⟩ = some (.int .i64 op) := by simp [hc4, hc3, hc2, hc, hz1, hz2, hz3]
  have c1 : w4.cell? ⟨w.heap.size, 1, none⟩ = some (.int .i64 d) := by simp [hc4, hc3, hc2, hc, hz1, hz2, hz3]
  have c2 : w4.cell? ⟨w.heap.size, 2, none⟩ = some (.int .i64 a) := by simp [hc4, hc3, hc2, hc, hz1, hz2, hz3]
  have c3 : w4.cell? ⟨w.heap.size, 3, none⟩ = some (.int .i64 b) := by simp [hc4, hc3, hc2, hc, hz1, hz2, hz3]
  have c4 : w4.cell? ⟨w.heap.size, 4, none⟩ = some (.int .i64 l) := by simp [hc4, hc3, hc2, hc, hz1, hz2, hz3]
  have c5 : w4.cell? ⟨w.heap.size, 5, none⟩ = some (.int .i64 i) := by simp [hc4, hc3, hc2, hc, hz1, hz2, hz3]
  clear hc hc2 hc3 hc4 hf hf2 hf3 hf4 hb hb2 hb3 hb4 B1 B2 B3 hz1 hz2 hz3
  have T4 := T.below B4
  have hne : ∀ w, Nonempty (Ext w) := ext_some
  refine wp_region_mix [([0, 1, 2, 4, 5], 3), ([6, 7, 8, 9, 10, 11, 12, 13, 14, 15, 16, 17, 18, 19, 20, 21, 22, 23, 24], 25), ([], 26)] [27, 28, 29, 30] (by kernel_rfl) (by kernel_rfl) (fun _ _ d _ _ h => by cases d <;> exact h) ?_
  dsimp only [List.map, opAt]
  refine wpMix_stage ?_
  repeat (go_big_quiet_step (fail))
  refine wpQuiet_nil ?_
  go_wp2_with (go_at_call 17; refine (Gives_any _ _ _ _ _ _ _ (T4.below (Below.drew (Below.refl _ _)))).mono ?_; rintro e w5 ⟨rfl, hb5⟩; rw [HG.out])
  have B5 : Below w4.heap.size w4 w5 := Below.thru (Below.drew (Below.refl _ _)) hb5 (Nat.le_refl _)
  refine ⟨B5, ?_⟩
  refine wpMix_stage ?_
  repeat (go_big_quiet_step (fail))
  refine wpQuiet_nil ?_
  go_wp2
  refine ⟨B5.alloc B5.size _, ?_⟩
  refine wpMix_stage ?_
  refine wpQuiet_nil ?_
  go_wp2_with (go_at_call 14; refine (Ints_any _ _ [a] [a] _ (by simp) (IntSl.below HS4.out (B5.alloc B5.size _)) (.inr ⟨_, _, _, rfl, fun i hi => by simp at hi; subst hi; simp⟩)).mono ?_; rintro e w6 ⟨rfl, nn, rfl⟩)
  refine ⟨below_drewN _ (B5.alloc B5.size _), ?_⟩
  refine wpMix_last ?_
  repeat (go_big_quiet_step (fail))
  refine wpQuiet_nil ?_
  go_wp2
  go_ret
  exact ⟨by simp, B4.trans ((below_drewN _ (B5.alloc B5.size _)).mono B4.size)⟩

set_option maxHeartbeats 4000000 in
theorem InsLoads_bare (op d a b l i behind locs : Int) (w : World) (T : Tab w) (hm : mayB op d a b l i behind locs = true) (hk : kindZ op = 1) (ha : a < 0) :
    Calls Tryd.prog 8 #[.agg #[.int .i64 op, .int .i64 d, .int .i64 a, .int .i64 b, .int .i64 l, .int .i64 i], .int .i64 behind, .int .i64 locs] w fun e w' => e = .returned (.bool true) ∧ Below w.heap.size w w' := by
  have HM : Hid _ := hm
  have HK : Hid _ := hk
  obtain ⟨_, hD, hA, hB⟩ := kind_read hk
  have HU : Hid (usesL op a b = []) := by unfold Hid usesL; rw [hA, hB]; simp; omega
  have HG : Hid (givesZ op d = d) := by unfold Hid givesZ; rw [hD]; rfl
  clear hm hk hD hA hB
  go_enter Tryd.func8, Tryd.ntmps8
  go_wp2_with fail
  refine (shown_any _ (T.alloc _)).mono ?_
  rintro e w1 ⟨rfl, hb⟩
  obtain ⟨hc, hf⟩ := bcell hb
  have B1 : Below w.heap.size w w1 := ((Below.refl _ _).alloc (Nat.le_refl _) _).trans (hb.mono (by simp))
  have hz1 : w.heap.size < w1.heap.size := by have := hb.size; simp at this; omega
  go_wp2_with fail
  refine (May_eq _ _ _ _ _ _ _ _ _ _ (T.below B1) HM.out).mono ?_
  rintro e w2 ⟨rfl, hb2⟩
  obtain ⟨hc2, hf2⟩ := bcell hb2
  have B2 : Below w.heap.size w w2 := B1.trans (hb2.mono B1.size)
  have hz2 : w.heap.size < w2.heap.size := by have := hb2.size; omega
  go_wp2_with fail
  refine (Uses_any _ _ _ _ _ _ _ (T.below B2)).mono ?_
  rintro e w3 ⟨v, rfl, hown, hb3⟩
  rw [HU.out] at hown
  obtain ⟨hc3, hf3⟩ := bcell hb3
  have B3 : Below w.heap.size w w3 := B2.trans (hb3.mono B2.size)
  have hz3 : w.heap.size < w3.heap.size := by have := hb3.size; omega
  have HS : Hid (IntSl w3 _ _) := ints_own hown
  clear hown
  obtain ⟨p, cap, hv⟩ := intsl_len HS.out
  subst hv
  go_wp2_with fail
  refine (Kind_any _ _ _ _ _ _ _ (T.below B3)).mono ?_
  rintro e w4 ⟨rfl, hb4⟩
  rw [HK.out]
  obtain ⟨hc4, hf4⟩ := bcell hb4
  have B4 : Below w.heap.size w w4 := B3.trans (hb4.mono B3.size)
  have hz4 : w.heap.size < w4.heap.size := by have := hb4.size; omega
  have HS4 : Hid (IntSl w4 _ _) := IntSl.below HS.out hb4
  go_wp2
  have c0 : w4.cell? ⟨w.heap.size, 0, none⟩ = some (.int .i64 op) := by simp [hc4, hc3, hc2, hc, hz1, hz2, hz3]
  have c1 : w4.cell? ⟨w.heap.size, 1, none⟩ = some (.int .i64 d) := by simp [hc4, hc3, hc2, hc, hz1, hz2, hz3]
  have c2 : w4.cell? ⟨w.heap.size, 2, none⟩ = some (.int .i64 a) := by simp [hc4, hc3, hc2, hc, hz1, hz2, hz3]
  have c3 : w4.cell? ⟨w.heap.size, 3, none⟩ = some (.int .i64 b) := by simp [hc4, hc3, hc2, hc, hz1, hz2, hz3]
  have c4 : w4.cell? ⟨w.heap.size, 4, none⟩ = some (.int .i64 l) := by simp [hc4, hc3, hc2, hc, hz1, hz2, hz3]
  have c5 : w4.cell? ⟨w.heap.size, 5, none⟩ = some (.int .i64 i) := by simp [hc4, hc3, hc2, hc, hz1, hz2, hz3]
  clear hc hc2 hc3 hc4 hf hf2 hf3 hf4 hb hb2 hb3 hb4 B1 B2 B3 hz1 hz2 hz3
  have T4 := T.below B4
  have hne : ∀ w, Nonempty (Ext w) := ext_some
  refine wp_region_mix [([0, 1, 2, 4, 5], 3), ([6, 7, 8, 9, 10, 11, 12, 13, 14, 15, 16, 17, 18, 19, 20, 21, 22, 23, 24], 25), ([], 26)] [27, 28, 29, 30] (by kernel_rfl) (by kernel_rfl) (fun _ _ d _ _ h => by cases d <;> exact h) ?_
  dsimp only [List.map, opAt]
  refine wpMix_stage ?_
  repeat (go_big_quiet_step (fail))
  refine wpQuiet_nil ?_
  go_wp2_with (go_at_call 17; refine (Gives_any _ _ _ _ _ _ _ (T4.below (Below.drew (Below.refl _ _)))).mono ?_; rintro e w5 ⟨rfl, hb5⟩; rw [HG.out])
  have B5 : Below w4.heap.size w4 w5 := Below.thru (Below.drew (Below.refl _ _)) hb5 (Nat.le_refl _)
  refine ⟨B5, ?_⟩
  refine wpMix_stage ?_
  repeat (go_big_quiet_step (fail))
  refine wpQuiet_nil ?_
  go_wp2
  refine ⟨B5, ?_⟩
  refine wpMix_stage ?_
  refine wpQuiet_nil ?_
  go_wp2
  refine ⟨B5, ?_⟩
  refine wpMix_last ?_
  repeat (go_big_quiet_step (fail))
  refine wpQuiet_nil ?_
  go_wp2
  go_ret
  exact ⟨rfl, B4.trans (B5.mono B4.size)⟩

set_option maxHeartbeats 4000000 in
theorem InsLoads_write (op d a b l i behind locs : Int) (w : World) (T : Tab w) (hm : mayB op d a b l i behind locs = true) (hk : kindZ op = 2) (ha : a = -1 ∨ 0 ≤ a ∧ a ≤ 3) :
    Calls Tryd.prog 8 #[.agg #[.int .i64 op, .int .i64 d, .int .i64 a, .int .i64 b, .int .i64 l, .int .i64 i], .int .i64 behind, .int .i64 locs] w fun e w' => e = .returned (.bool true) ∧ Below w.heap.size w w' := by
  have HM : Hid _ := hm
  have HK : Hid _ := hk
  obtain ⟨_, hA, hB, _⟩ := kind_write hk
  have hbb := may_B (may_parts hm).2.2.2.1 hB
  obtain ⟨xs, hx, hl, hx0, HU⟩ : ∃ xs : List Int, xs.length ≤ 2 ∧ (xs.length : Int) = 1 + (a + 4) / 4 ∧ xs.getD (xs.length - 1) 0 = b ∧ Hid (usesL op a b = xs) := by
    unfold Hid usesL
    rw [hA, hB]
    rcases ha with ha | ⟨ha, ha3⟩
    · subst ha
      exact ⟨[b], by simp, by simp, rfl, by simp [hbb]⟩
    · have h4 : (a + 4) / 4 = 1 := by omega
      exact ⟨[a, b], by simp, by rw [h4]; rfl, rfl, by simp [hbb, ha]⟩
  have h1 : 1 ≤ xs.length := by omega
  have hq : (a + 4) / 4 ≤ 1 ∧ 0 ≤ (a + 4) / 4 := by omega
  have ha' : -1 ≤ a ∧ a ≤ 3 := by omega
  have HL : Hid _ := hl
  have HX : Hid _ := hx0
  clear hm hk hA hB hx0 hl ha hbb
  go_enter Tryd.func8, Tryd.ntmps8
  go_wp2_with fail
  refine (shown_any _ (T.alloc _)).mono ?_
  rintro e w1 ⟨rfl, hb⟩
  obtain ⟨hc, hf⟩ := bcell hb
  have B1 : Below w.heap.size w w1 := ((Below.refl _ _).alloc (Nat.le_refl _) _).trans (hb.mono (by simp))
  have hz1 : w.heap.size < w1.heap.size := by have := hb.size; simp at this; omega
  go_wp2_with fail
  refine (May_eq _ _ _ _ _ _ _ _ _ _ (T.below B1) HM.out).mono ?_
  rintro e w2 ⟨rfl, hb2⟩
  obtain ⟨hc2, hf2⟩ := bcell hb2
  have B2 : Below w.heap.size w w2 := B1.trans (hb2.mono B1.size)
  have hz2 : w.heap.size < w2.heap.size := by have := hb2.size; omega
  go_wp2_with fail
  refine (Uses_any _ _ _ _ _ _ _ (T.below B2)).mono ?_
  rintro e w3 ⟨v, rfl, hown, hb3⟩
  rw [HU.out] at hown
  obtain ⟨hc3, hf3⟩ := bcell hb3
  have B3 : Below w.heap.size w w3 := B2.trans (hb3.mono B2.size)
  have hz3 : w.heap.size < w3.heap.size := by have := hb3.size; omega
  have HS : Hid (IntSl w3 _ _) := ints_own hown
  clear hown
  obtain ⟨p, cap, hv⟩ := intsl_len HS.out
  subst hv
  go_wp2_with fail
  refine (Kind_any _ _ _ _ _ _ _ (T.below B3)).mono ?_
  rintro e w4 ⟨rfl, hb4⟩
  rw [HK.out]
  obtain ⟨hc4, hf4⟩ := bcell hb4
  have B4 : Below w.heap.size w w4 := B3.trans (hb4.mono B3.size)
  have hz4 : w.heap.size < w4.heap.size := by have := hb4.size; omega
  have HS4 : Hid (IntSl w4 _ _) := IntSl.below HS.out hb4
  have c0 : w4.cell? ⟨w.heap.size, 0, none⟩ = some (.int .i64 op) := by simp [hc4, hc3, hc2, hc, hz1, hz2, hz3]
  have c1 : w4.cell? ⟨w.heap.size, 1, none⟩ = some (.int .i64 d) := by simp [hc4, hc3, hc2, hc, hz1, hz2, hz3]
  have c2 : w4.cell? ⟨w.heap.size, 2, none⟩ = some (.int .i64 a) := by simp [hc4, hc3, hc2, hc, hz1, hz2, hz3]
  have c3 : w4.cell? ⟨w.heap.size, 3, none⟩ = some (.int .i64 b) := by simp [hc4, hc3, hc2, hc, hz1, hz2, hz3]
  have c4 : w4.cell? ⟨w.heap.size, 4, none⟩ = some (.int .i64 l) := by simp [hc4, hc3, hc2, hc, hz1, hz2, hz3]
  have c5 : w4.cell? ⟨w.heap.size, 5, none⟩ = some (.int .i64 i) := by simp [hc4, hc3, hc2, hc, hz1, hz2, hz3]
  clear hc hc2 hc3 hc4 hf hf2 hf3 hf4 hb hb2 hb3 hb4 B1 B2 B3 hz1 hz2 hz3
  have T4 := T.below B4
  obtain ⟨b', o', cap', hv, hcell⟩ := intsl_at HS4.out (k := xs.length - 1) (by omega)
  simp only [Value.slice.injEq, true_and] at hv
  obtain ⟨rfl, rfl⟩ := hv
  rw [HX.out] at hcell
  have hlt := cell_lt hcell
  have b0 : (0 : Int) ≤ (xs.length : Int) - 1 := by omega
  have b1 : (xs.length : Int) - 1 < (xs.length : Int) := by omega
  have b2 : (1 : Int) ≤ (xs.length : Int) := by omega
  have e1 : ((xs.length : Int) - 1).toNat = xs.length - 1 := by omega
  go_wp2
  have hne : ∀ w, Nonempty (Ext w) := ext_some
  refine wp_region_mix [] [0, 1, 2, 3, 4, 5, 6, 7, 8, 9, 10, 11, 12, 13, 14, 15, 16, 17, 18, 19, 20, 21, 22, 23, 24, 25, 26, 27] (by kernel_rfl) (by kernel_rfl) (fun _ _ d _ _ h => by cases d <;> exact h) ?_
  dsimp only [List.map, opAt]
  refine wpMix_last ?_
  repeat (go_big_quiet_step (fail))
  refine wpQuiet_nil ?_
  go_wp2
  go_ret
  refine ⟨?_, B4.drew⟩
  have := HL.out
  simp [← this]

theorem quiet_none {op : Int} (hk : kindZ op = 0) (h : op = 11 ∨ op = 12) : hasAB op = false ∧ hasBB op = false ∧ hasDB op = false := by
  rcases h with h | h <;> subst h <;> decide

set_option maxHeartbeats 4000000 in
theorem InsLoads_else (op d a b l i behind locs : Int) (w : World) (T : Tab w) (hm : mayB op d a b l i behind locs = true) (hk : kindZ op = 0) :
    Calls Tryd.prog 8 #[.agg #[.int .i64 op, .int .i64 d, .int .i64 a, .int .i64 b, .int .i64 l, .int .i64 i], .int .i64 behind, .int .i64 locs] w fun e w' => e = .returned (.bool true) ∧ Below w.heap.size w w' := by
  have HM : Hid _ := hm
  have HK : Hid _ := hk
  by_cases hq : op = 11 ∨ op = 12
  · obtain ⟨hA, hB, hD⟩ := quiet_none hk hq
    have HU : Hid (usesL op a b = []) := by unfold Hid usesL; rw [hA, hB]; simp
    have HG : Hid (givesZ op d = -1) := by unfold Hid givesZ; rw [hD]; rfl
    clear hm hk hA hB hD
    rcases hq with hq | hq
    all_goals
      subst hq
      go_enter Tryd.func8, Tryd.ntmps8
      go_wp2_with fail
      refine (shown_any _ (T.alloc _)).mono ?_
      rintro e w1 ⟨rfl, hb⟩
      obtain ⟨hc, hf⟩ := bcell hb
      have B1 : Below w.heap.size w w1 := ((Below.refl _ _).alloc (Nat.le_refl _) _).trans (hb.mono (by simp))
      have hz1 : w.heap.size < w1.heap.size := by have := hb.size; simp at this; omega
      go_wp2_with fail
      refine (May_eq _ _ _ _ _ _ _ _ _ _ (T.below B1) HM.out).mono ?_
      rintro e w2 ⟨rfl, hb2⟩
      obtain ⟨hc2, hf2⟩ := bcell hb2
      have B2 : Below w.heap.size w w2 := B1.trans (hb2.mono B1.size)
      have hz2 : w.heap.size < w2.heap.size := by have := hb2.size; omega
      go_wp2_with fail
      refine (Uses_any _ _ _ _ _ _ _ (T.below B2)).mono ?_
      rintro e w3 ⟨v, rfl, hown, hb3⟩
      rw [HU.out] at hown
      obtain ⟨hc3, hf3⟩ := bcell hb3
      have B3 : Below w.heap.size w w3 := B2.trans (hb3.mono B2.size)
      have hz3 : w.heap.size < w3.heap.size := by have := hb3.size; omega
      have HS : Hid (IntSl w3 _ _) := ints_own hown
      clear hown
      obtain ⟨p, cap, hv⟩ := intsl_len HS.out
      subst hv
      go_wp2_with fail
      refine (Kind_any _ _ _ _ _ _ _ (T.below B3)).mono ?_
      rintro e w4 ⟨rfl, hb4⟩
      rw [HK.out]
      obtain ⟨hc4, hf4⟩ := bcell hb4
      have B4 : Below w.heap.size w w4 := B3.trans (hb4.mono B3.size)
      have hz4 : w.heap.size < w4.heap.size := by have := hb4.size; omega
      have HS4 : Hid (IntSl w4 _ _) := IntSl.below HS.out hb4
      go_wp2_with (go_at_call 17; refine (Gives_any _ _ _ _ _ _ _ (T.below B4)).mono ?_; rintro e w5 ⟨rfl, hb5⟩; rw [HG.out])
      go_ret
      exact ⟨rfl, Below.thru B4 hb5 (Nat.le_refl _)⟩
  · have h11 : (op == 11) = false := by simp; omega
    have h12 : (op == 12) = false := by simp; omega
    obtain ⟨xs, HU⟩ : ∃ xs, Hid (usesL op a b = xs) := ⟨_, rfl⟩
    clear hm hk
    go_enter Tryd.func8, Tryd.ntmps8
    go_wp2_with fail
    refine (shown_any _ (T.alloc _)).mono ?_
    rintro e w1 ⟨rfl, hb⟩
    obtain ⟨hc, hf⟩ := bcell hb
    have B1 : Below w.heap.size w w1 := ((Below.refl _ _).alloc (Nat.le_refl _) _).trans (hb.mono (by simp))
    have hz1 : w.heap.size < w1.heap.size := by have := hb.size; simp at this; omega
    go_wp2_with fail
    refine (May_eq _ _ _ _ _ _ _ _ _ _ (T.below B1) HM.out).mono ?_
    rintro e w2 ⟨rfl, hb2⟩
    obtain ⟨hc2, hf2⟩ := bcell hb2
    have B2 : Below w.heap.size w w2 := B1.trans (hb2.mono B1.size)
    have hz2 : w.heap.size < w2.heap.size := by have := hb2.size; omega
    go_wp2_with fail
    refine (Uses_any _ _ _ _ _ _ _ (T.below B2)).mono ?_
    rintro e w3 ⟨v, rfl, hown, hb3⟩
    rw [HU.out] at hown
    obtain ⟨hc3, hf3⟩ := bcell hb3
    have B3 : Below w.heap.size w w3 := B2.trans (hb3.mono B2.size)
    have hz3 : w.heap.size < w3.heap.size := by have := hb3.size; omega
    have HS : Hid (IntSl w3 _ _) := ints_own hown
    clear hown
    obtain ⟨p, cap, hv⟩ := intsl_len HS.out
    subst hv
    go_wp2_with fail
    refine (Kind_any _ _ _ _ _ _ _ (T.below B3)).mono ?_
    rintro e w4 ⟨rfl, hb4⟩
    rw [HK.out]
    obtain ⟨hc4, hf4⟩ := bcell hb4
    have B4 : Below w.heap.size w w4 := B3.trans (hb4.mono B3.size)
    have hz4 : w.heap.size < w4.heap.size := by have := hb4.size; omega
    have HS4 : Hid (IntSl w4 _ _) := IntSl.below HS.out hb4
    go_wp2
    go_ret
    exact ⟨rfl, B4⟩

theorem InsLoads_true (op d a b l i behind locs : Int) (w : World) (T : Tab w) :
    Calls Tryd.prog 8 #[.agg #[.int .i64 op, .int .i64 d, .int .i64 a, .int .i64 b, .int .i64 l, .int .i64 i], .int .i64 behind, .int .i64 locs] w fun e w' => e = .returned (.bool true) ∧ Below w.heap.size w w' := by
  cases h : mayB op d a b l i behind locs
  · exact InsLoads_no op d a b l i behind locs w T h
  · rcases kind_cases op with hk | hk | hk
    · exact InsLoads_else op d a b l i behind locs w T h hk
    · by_cases ha : 0 ≤ a
      · exact InsLoads_read op d a b l i behind locs w T h hk ha
      · exact InsLoads_bare op d a b l i behind locs w T h hk (by omega)
    · have := may_A (may_parts h).2.2.1 (kind_write hk).2.1
      exact InsLoads_write op d a b l i behind locs w T h hk (by omega)
end Go.Proofs.YtmmdjgjklbchfaaDoor
