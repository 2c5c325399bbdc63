/- The walk of InsTurned: true, at all instructions. -/
import Derived.Test.YtmmdjgjklbchfaaDoorInsShown
import Derived.Test.YtmmdjgjklbchfaaDoorInsFacts
namespace Go.Proofs.YtmmdjgjklbchfaaDoor
open Go.RowKit

theorem May_eq (op d a b l i behind locs : Int) (r : Bool) (w : World) (T : Tab w) (h : mayB op d a b l i behind locs = r) :
    Calls Tryd.prog 19 #[.agg #[.int .i64 op, .int .i64 d, .int .i64 a, .int .i64 b, .int .i64 l, .int .i64 i], .int .i64 behind, .int .i64 locs] w fun e w' => e = .returned (.bool r) ∧ Below w.heap.size w w' := by
  subst h; exact May_any op d a b l i behind locs w T

set_option maxHeartbeats 2000000 in
theorem InsTurned_true (op d a b l i behind locs : Int) (w : World) (T : Tab w) (hlo : -9223372036854775808 ≤ locs) (hhi : locs ≤ 9223372036854775807) :
    Calls Tryd.prog 6 #[.agg #[.int .i64 op, .int .i64 d, .int .i64 a, .int .i64 b, .int .i64 l, .int .i64 i], .int .i64 behind, .int .i64 locs] w fun e w' => e = .returned (.bool true) ∧ Below w.heap.size w w' := by
  cases hm : mayB op d a b l i behind locs
  all_goals
    have HM : Hid _ := hm
    clear hm
    go_enter Tryd.func6, Tryd.ntmps6
    go_wp2_with fail
    refine (shown_any _ (T.alloc _)).mono ?_
    rintro e w1 ⟨rfl, hb⟩
    obtain ⟨hc, hf⟩ := bcell hb
    have B1 : Below w.heap.size w w1 := ((Below.refl _ _).alloc (Nat.le_refl _) _).trans (hb.mono (by simp))
    have hz1 : w.heap.size < w1.heap.size := by have := hb.size; simp at this; omega
    go_wp2_with fail
    refine (May_eq _ _ _ _ _ _ _ _ _ _ (T.below B1) HM.out).mono ?_
    rintro e w2 ⟨rfl, hb2⟩
    obtain ⟨hc2, hf2⟩ := bcell hb2
    have B2 : Below w.heap.size w w2 := B1.trans (hb2.mono B1.size)
    have hz2 : w.heap.size < w2.heap.size := by have := hb2.size; omega
  · go_wp2
    go_ret
    exact ⟨rfl, B2⟩
  · have n0 : w.heap.size ≤ w2.heap.size := by omega
    have n1 : w.heap.size ≤ w2.heap.size + 1 := by omega
    have n2 : w.heap.size ≤ w2.heap.size + 2 := by omega
    have n3 : w.heap.size ≤ w2.heap.size + 3 := by omega
    have n2' : w.heap.size < w2.heap.size + 2 := by omega
    have n3' : w.heap.size < w2.heap.size + 3 := by omega
    have n4' : w.heap.size < w2.heap.size + 4 := by omega
    have LW : Hid (0 ≤ locs → wrap64 (locs + 1) < 0 ∨ wrap64 (locs + 1) = locs + 1) := by
      intro h0
      unfold wrap64
      omega
    by_cases hl : locs < 0
    · go_wp2_with fail
      refine (May_eq _ _ _ _ _ _ _ _ _ _ (((((T.below B2).alloc _).alloc _).alloc _).alloc _ |>.alloc _) turned_D).mono ?_
      rintro e w3 ⟨rfl, hb3⟩
      obtain ⟨hc3, hf3⟩ := bcell hb3
      have z30 : w2.heap.size < w3.heap.size := by have := hb3.size; simp at this; omega
      have z31 : w2.heap.size + 1 < w3.heap.size := by have := hb3.size; simp at this; omega
      have z32 : w2.heap.size + 2 < w3.heap.size := by have := hb3.size; simp at this; omega
      have z33 : w2.heap.size + 3 < w3.heap.size := by have := hb3.size; simp at this; omega
      have z34 : w2.heap.size + 4 < w3.heap.size := by have := hb3.size; simp at this; omega
      have B3 : Below w.heap.size w w3 := (((((B2.alloc (by omega) _).alloc (by simp; omega) _).alloc (by simp; omega) _).alloc (by simp; omega) _).alloc (by simp; omega) _).trans (hb3.mono (by simp; omega))
      go_wp2_with fail
      refine (May_eq _ _ _ _ _ _ _ _ _ _ (T.below B3) turned_B).mono ?_
      rintro e w4 ⟨rfl, hb4⟩
      obtain ⟨hc4, hf4⟩ := bcell hb4
      have z40 : w2.heap.size < w4.heap.size := by have := hb4.size; omega
      have z41 : w2.heap.size + 1 < w4.heap.size := by have := hb4.size; omega
      have z42 : w2.heap.size + 2 < w4.heap.size := by have := hb4.size; omega
      have z43 : w2.heap.size + 3 < w4.heap.size := by have := hb4.size; omega
      have z44 : w2.heap.size + 4 < w4.heap.size := by have := hb4.size; omega
      have B4 : Below w.heap.size w w4 := Below.thru B3 hb4 (Nat.le_refl _)
      go_wp2_with fail
      refine (May_eq _ _ _ _ _ _ _ _ _ _ (T.below B4) turned_A).mono ?_
      rintro e w5 ⟨rfl, hb5⟩
      obtain ⟨hc5, hf5⟩ := bcell hb5
      have z50 : w2.heap.size < w5.heap.size := by have := hb5.size; omega
      have z51 : w2.heap.size + 1 < w5.heap.size := by have := hb5.size; omega
      have z52 : w2.heap.size + 2 < w5.heap.size := by have := hb5.size; omega
      have z53 : w2.heap.size + 3 < w5.heap.size := by have := hb5.size; omega
      have z54 : w2.heap.size + 4 < w5.heap.size := by have := hb5.size; omega
      have B5 : Below w.heap.size w w5 := Below.thru B4 hb5 (Nat.le_refl _)
      go_wp2_with fail
      refine (May_eq _ _ _ _ _ _ _ _ _ _ (T.below B5) turned_O).mono ?_
      rintro e w6 ⟨rfl, hb6⟩
      go_wp2
      go_ret
      exact ⟨rfl, Below.thru B5 hb6 (Nat.le_refl _)⟩
    · have HL : Hid _ := LW.out (by omega)
      have hl0 : (0 : Int) ≤ locs := by omega
      go_wp2_with fail
      refine (May_eq _ _ _ _ _ _ _ _ _ _ (((((T.below B2).alloc _).alloc _).alloc _).alloc _ |>.alloc _) turned_D).mono ?_
      rintro e w3 ⟨rfl, hb3⟩
      obtain ⟨hc3, hf3⟩ := bcell hb3
      have z30 : w2.heap.size < w3.heap.size := by have := hb3.size; simp at this; omega
      have z31 : w2.heap.size + 1 < w3.heap.size := by have := hb3.size; simp at this; omega
      have z32 : w2.heap.size + 2 < w3.heap.size := by have := hb3.size; simp at this; omega
      have z33 : w2.heap.size + 3 < w3.heap.size := by have := hb3.size; simp at this; omega
      have z34 : w2.heap.size + 4 < w3.heap.size := by have := hb3.size; simp at this; omega
      have B3 : Below w.heap.size w w3 := (((((B2.alloc (by omega) _).alloc (by simp; omega) _).alloc (by simp; omega) _).alloc (by simp; omega) _).alloc (by simp; omega) _).trans (hb3.mono (by simp; omega))
      go_wp2_with fail
      refine (May_eq _ _ _ _ _ _ _ _ _ _ (T.below B3) turned_B).mono ?_
      rintro e w4 ⟨rfl, hb4⟩
      obtain ⟨hc4, hf4⟩ := bcell hb4
      have z40 : w2.heap.size < w4.heap.size := by have := hb4.size; omega
      have z41 : w2.heap.size + 1 < w4.heap.size := by have := hb4.size; omega
      have z42 : w2.heap.size + 2 < w4.heap.size := by have := hb4.size; omega
      have z43 : w2.heap.size + 3 < w4.heap.size := by have := hb4.size; omega
      have z44 : w2.heap.size + 4 < w4.heap.size := by have := hb4.size; omega
      have B4 : Below w.heap.size w w4 := Below.thru B3 hb4 (Nat.le_refl _)
      go_wp2_with fail
      refine (May_eq _ _ _ _ _ _ _ _ _ _ (T.below B4) turned_A).mono ?_
      rintro e w5 ⟨rfl, hb5⟩
      obtain ⟨hc5, hf5⟩ := bcell hb5
      have z50 : w2.heap.size < w5.heap.size := by have := hb5.size; omega
      have z51 : w2.heap.size + 1 < w5.heap.size := by have := hb5.size; omega
      have z52 : w2.heap.size + 2 < w5.heap.size := by have := hb5.size; omega
      have z53 : w2.heap.size + 3 < w5.heap.size := by have := hb5.size; omega
      have z54 : w2.heap.size + 4 < w5.heap.size := by have := hb5.size; omega
      have B5 : Below w.heap.size w w5 := Below.thru B4 hb5 (Nat.le_refl _)
      go_wp2_with fail
      refine (May_eq _ _ _ _ _ _ _ _ _ _ (T.below B5) (turned_L hl0 HL.out)).mono ?_
      rintro e w6 ⟨rfl, hb6⟩
      obtain ⟨hc6, hf6⟩ := bcell hb6
      have z60 : w2.heap.size < w6.heap.size := by have := hb6.size; omega
      have z61 : w2.heap.size + 1 < w6.heap.size := by have := hb6.size; omega
      have z62 : w2.heap.size + 2 < w6.heap.size := by have := hb6.size; omega
      have z63 : w2.heap.size + 3 < w6.heap.size := by have := hb6.size; omega
      have z64 : w2.heap.size + 4 < w6.heap.size := by have := hb6.size; omega
      have B6 : Below w.heap.size w w6 := Below.thru B5 hb6 (Nat.le_refl _)
      go_wp2_with fail
      refine (May_eq _ _ _ _ _ _ _ _ _ _ (T.below B6) turned_O).mono ?_
      rintro e w7 ⟨rfl, hb7⟩
      go_wp2
      go_ret
      exact ⟨rfl, Below.thru B6 hb7 (Nat.le_refl _)⟩
end Go.Proofs.YtmmdjgjklbchfaaDoor
