/- The walk of InsRegs: true, at all instructions. -/
import Derived.Test.YtmmdjgjklbchfaaDoorInsShown
import Derived.Test.YtmmdjgjklbchfaaDoorInsFacts
namespace Go.Proofs.YtmmdjgjklbchfaaDoor
open Go.RowKit

set_option maxHeartbeats 1000000 in
theorem InsRegs_no (op d a b l i behind locs : Int) (w : World) (T : Tab w) (hm : mayB op d a b l i behind locs = false) :
    Calls Tryd.prog 4 #[.agg #[.int .i64 op, .int .i64 d, .int .i64 a, .int .i64 b, .int .i64 l, .int .i64 i], .int .i64 behind, .int .i64 locs] w fun e w' => e = .returned (.bool true) ∧ Below w.heap.size w w' := by
  have HM : Hid _ := hm
  clear hm
  go_enter Tryd.func4, Tryd.ntmps4
  go_wp2_with fail
  refine (shown_any _ (T.alloc _)).mono ?_
  rintro e w1 ⟨rfl, hb⟩
  obtain ⟨hc, hf⟩ := bcell hb
  have B1 : Below w.heap.size w w1 := ((Below.refl _ _).alloc (Nat.le_refl _) _).trans (hb.mono (by simp))
  go_wp2_with fail
  refine (May_any _ _ _ _ _ _ _ _ _ (T.below B1)).mono ?_
  rintro e w2 ⟨rfl, hb2⟩
  rw [HM.out]
  go_wp2
  go_ret
  exact ⟨rfl, B1.trans (hb2.mono B1.size)⟩

set_option maxHeartbeats 2000000 in
theorem InsRegs_yes (op d a b l i behind locs : Int) (w : World) (T : Tab w) (hm : mayB op d a b l i behind locs = true) :
    Calls Tryd.prog 4 #[.agg #[.int .i64 op, .int .i64 d, .int .i64 a, .int .i64 b, .int .i64 l, .int .i64 i], .int .i64 behind, .int .i64 locs] w fun e w' => e = .returned (.bool true) ∧ Below w.heap.size w w' := by
  have HM : Hid _ := hm
  clear hm
  go_enter Tryd.func4, Tryd.ntmps4
  go_wp2_with fail
  refine (shown_any _ (T.alloc _)).mono ?_
  rintro e w1 ⟨rfl, hb⟩
  obtain ⟨hc, hf⟩ := bcell hb
  have B1 : Below w.heap.size w w1 := ((Below.refl _ _).alloc (Nat.le_refl _) _).trans (hb.mono (by simp))
  have hz1 : w.heap.size < w1.heap.size := by have := hb.size; simp at this; omega
  go_wp2_with fail
  refine (May_any _ _ _ _ _ _ _ _ _ (T.below B1)).mono ?_
  rintro e w2 ⟨rfl, hb2⟩
  rw [HM.out]
  obtain ⟨hc2, hf2⟩ := bcell hb2
  have B2 : Below w.heap.size w w2 := B1.trans (hb2.mono B1.size)
  have hz2 : w.heap.size < w2.heap.size := by have := hb2.size; omega
  go_wp2_with fail
  refine (Uses_any _ _ _ _ _ _ _ (T.below B2)).mono ?_
  rintro e w3 ⟨v, rfl, hown, hb3⟩
  obtain ⟨hc3, hf3⟩ := bcell hb3
  have B3 : Below w.heap.size w w3 := B2.trans (hb3.mono B2.size)
  have hz3 : w.heap.size < w3.heap.size := by have := hb3.size; omega
  have HS : Hid _ := ints_own hown
  clear hown
  have hlen := uses_len op a b
  have HR : Hid _ := uses_reg HM.out
  obtain ⟨p, cap, hv⟩ := intsl_len HS.out
  subst hv
  go_wp2
  go_loop [9] (fun i => ∃ k : Nat, k ≤ (usesL op a b).length ∧ i = .int .i64 k) (fun i => (usesL op a b).length - (intOf i).toNat)
  case atStart => exact ⟨0, Nat.zero_le _, rfl⟩
  case round =>
    obtain ⟨k, hk, rfl⟩ := hrel
    by_cases hlt : k < (usesL op a b).length
    · obtain ⟨b', o', cap', hv, hcell⟩ := intsl_at HS.out hlt
      simp only [Value.slice.injEq, true_and] at hv
      obtain ⟨rfl, rfl⟩ := hv
      have hreg := HR.out ((usesL op a b).getD k 0) (by rw [List.getD_eq_getElem?_getD, List.getElem?_eq_getElem hlt]; simp)
      generalize (usesL op a b).getD k 0 = x at hcell hreg
      obtain ⟨hx0, hx3⟩ := hreg
      have d1 : decide (x < 0) = false := decide_eq_false (by omega)
      have d2 : decide (3 < x) = false := decide_eq_false (by omega)
      have b0 : (0 : Int) ≤ (k : Int) := by omega
      have b1 : (k : Int) < ((usesL op a b).length : Int) := by omega
      go_wp2
      go_round
      case rel => exact ⟨k + 1, by omega, by go_num⟩
      case measure => simp [intOf]; omega
    · go_wp2_with fail
      refine (Gives_any _ _ _ _ _ _ _ (T.below B3)).mono ?_
      rintro e w4 ⟨rfl, hb4⟩
      obtain ⟨hc4, hf4⟩ := bcell hb4
      have B4 : Below w.heap.size w w4 := B3.trans (hb4.mono B3.size)
      have hz4 : w.heap.size < w4.heap.size := by have := hb4.size; omega
      have hg := gives_reg HM.out
      have hn : (nameS op).toList.isEmpty = false := by rw [name_empty, decide_eq_true (may_parts HM.out).1]; rfl
      obtain ⟨hg1, hg3⟩ := hg
      obtain ⟨_, hm1, _⟩ := may_parts HM.out
      have hr : kindZ op = 1 → 0 ≤ givesZ op d := fun hk => by
        obtain ⟨_, hd, _⟩ := kind_read hk
        have := may_D hm1 hd
        unfold givesZ; rw [hd]; exact this.1
      have hw : kindZ op = 2 → op = 10 ∧ 0 ≤ givesZ op d ∨ op ≠ 10 ∧ givesZ op d < 0 := fun hk => by
        obtain ⟨_, _, _, hd⟩ := kind_write hk
        by_cases h10 : op = 10
        · rw [decide_eq_true h10] at hd
          have := may_D hm1 hd
          exact .inl ⟨h10, by unfold givesZ; rw [hd]; exact this.1⟩
        · rw [decide_eq_false h10] at hd
          exact .inr ⟨h10, by unfold givesZ; rw [hd]; exact (by decide : (-1 : Int) < 0)⟩
      generalize givesZ op d = g at hg1 hg3 hr hw
      rcases kind_cases op with hk | hk | hk
      · clear hr hw
        go_wp2_with (first
          | (go_at_call 12; refine (Kind_any _ _ _ _ _ _ _ (T.below (by assumption))).mono ?_; rintro e w5 ⟨rfl, hb5⟩; obtain ⟨hc5, hf5⟩ := bcell hb5; have hz5 : w.heap.size < w5.heap.size := Nat.lt_of_lt_of_le (by assumption) hb5.size; have B5 := Below.thru (by assumption) hb5 (Nat.le_refl _))
          | (go_at_call 10; refine (Name_any _ _ (T.below (by assumption))).mono ?_; rintro e w6 ⟨rfl, hb6⟩))
        go_ret
        exact ⟨rfl, Below.thru B5 hb6 (Nat.le_refl _)⟩
      · have hg0 := hr hk
        clear hr hw
        go_wp2_with (first
          | (go_at_call 12; refine (Kind_any _ _ _ _ _ _ _ (T.below (by assumption))).mono ?_; rintro e w5 ⟨rfl, hb5⟩; obtain ⟨hc5, hf5⟩ := bcell hb5; have hz5 : w.heap.size < w5.heap.size := Nat.lt_of_lt_of_le (by assumption) hb5.size; have B5 := Below.thru (by assumption) hb5 (Nat.le_refl _))
          | (go_at_call 10; refine (Name_any _ _ (T.below (by assumption))).mono ?_; rintro e w6 ⟨rfl, hb6⟩))
        go_ret
        exact ⟨rfl, Below.thru B5 hb6 (Nat.le_refl _)⟩
      · rcases hw hk with ⟨h10, hg0⟩ | ⟨h10, hg0⟩
        · subst h10
          clear hr hw
          go_wp2_with (first
            | (go_at_call 12; refine (Kind_any _ _ _ _ _ _ _ (T.below (by assumption))).mono ?_; rintro e w5 ⟨rfl, hb5⟩; obtain ⟨hc5, hf5⟩ := bcell hb5; have hz5 : w.heap.size < w5.heap.size := Nat.lt_of_lt_of_le (by assumption) hb5.size; have B5 := Below.thru (by assumption) hb5 (Nat.le_refl _))
            | (go_at_call 10; refine (Name_any _ _ (T.below (by assumption))).mono ?_; rintro e w6 ⟨rfl, hb6⟩))
          go_ret
          exact ⟨rfl, Below.thru B5 hb6 (Nat.le_refl _)⟩
        · have h10' : (op == 10) = false := by simpa using h10
          have hg0' : decide (0 ≤ g) = false := decide_eq_false (by omega)
          clear hr hw
          go_wp2_with (first
            | (go_at_call 12; refine (Kind_any _ _ _ _ _ _ _ (T.below (by assumption))).mono ?_; rintro e w5 ⟨rfl, hb5⟩; obtain ⟨hc5, hf5⟩ := bcell hb5; have hz5 : w.heap.size < w5.heap.size := Nat.lt_of_lt_of_le (by assumption) hb5.size; have B5 := Below.thru (by assumption) hb5 (Nat.le_refl _))
            | (go_at_call 10; refine (Name_any _ _ (T.below (by assumption))).mono ?_; rintro e w6 ⟨rfl, hb6⟩))
          go_ret
          exact ⟨rfl, Below.thru B5 hb6 (Nat.le_refl _)⟩

theorem InsRegs_true (op d a b l i behind locs : Int) (w : World) (T : Tab w) :
    Calls Tryd.prog 4 #[.agg #[.int .i64 op, .int .i64 d, .int .i64 a, .int .i64 b, .int .i64 l, .int .i64 i], .int .i64 behind, .int .i64 locs] w fun e w' => e = .returned (.bool true) ∧ Below w.heap.size w w' := by
  cases h : mayB op d a b l i behind locs
  · exact InsRegs_no op d a b l i behind locs w T h
  · exact InsRegs_yes op d a b l i behind locs w T h
end Go.Proofs.YtmmdjgjklbchfaaDoor
