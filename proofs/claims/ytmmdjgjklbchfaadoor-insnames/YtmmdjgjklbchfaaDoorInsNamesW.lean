/- The walk of InsNames: true, at all numbers. -/
import Derived.Test.YtmmdjgjklbchfaaDoorInsShown
namespace Go.Proofs.YtmmdjgjklbchfaaDoor
open Go.RowKit

/-- All letters are small. -/
theorem name_small (op : Int) (k : Nat) (h : k < (nameS op).size) : 97 ≤ (((nameS op)[k]'h).toNat : Int) ∧ (((nameS op)[k]'h).toNat : Int) ≤ 122 := by
  have all : ∀ op : Int, ∀ k : Nat, (h : k < (nameS op).size) → 97 ≤ ((nameS op)[k]'h).toNat ∧ ((nameS op)[k]'h).toNat ≤ 122 := by
    intro op
    rcases op_cases op with h | h | h | h | h | h | h | h | h | h | h | h | h | h | h
    · have e : nameS op = ⟨#[]⟩ := by unfold nameS; repeat rw [if_neg (by omega)]
      rw [e]; intro k hk; exact absurd hk (Nat.not_lt_zero k)
    all_goals subst h; decide +kernel
  have := all op k h
  omega

theorem name_out' {op : Int} (h : op ≤ 0 ∨ 15 ≤ op) : nameS op = ⟨#[]⟩ := by
  unfold nameS; repeat rw [if_neg (by omega)]
set_option maxHeartbeats 1000000 in
theorem name_inj (a b : Int) (h1 : 1 ≤ a) (h14 : a ≤ 14) : ((nameS a).toList == (nameS b).toList) = (a == b) := by
  rcases op_cases b with hb | hb | hb | hb | hb | hb | hb | hb | hb | hb | hb | hb | hb | hb | hb
  · rw [name_out' hb, show (a == b) = false from by simp; omega]
    rcases op_cases a with h | h | h | h | h | h | h | h | h | h | h | h | h | h | h
    · omega
    all_goals subst h; decide +kernel
  all_goals
    subst hb
    rcases op_cases a with h | h | h | h | h | h | h | h | h | h | h | h | h | h | h
    · omega
    all_goals subst h; decide +kernel

set_option maxHeartbeats 1000000 in
theorem InsNames_true (a b : Int) (w : World) (T : Tab w) :
    Calls Tryd.prog 7 #[.int .i64 a, .int .i64 b] w fun e w' => e = .returned (.bool true) ∧ Below w.heap.size w w' := by
  have hs : (nameS a).size ≤ 4 := by
    rcases op_cases a with h | h | h | h | h | h | h | h | h | h | h | h | h | h | h
    · have e : nameS a = ⟨#[]⟩ := by unfold nameS; repeat rw [if_neg (by omega)]
      rw [e]; decide
    all_goals subst h; decide
  go_enter Tryd.func7, Tryd.ntmps7
  go_wp2_with fail
  refine (shown_any _ T).mono ?_
  rintro e w1 ⟨rfl, B1⟩
  go_wp2_with fail
  refine (Name_any _ _ (T.below B1)).mono ?_
  rintro e w2 ⟨rfl, hb2⟩
  have B2 : Below w.heap.size w w2 := B1.trans (hb2.mono B1.size)
  go_wp2
  go_loop [7] (fun i => ∃ k : Nat, k ≤ (nameS a).size ∧ i = .int .i64 k) (fun i => (nameS a).size - (intOf i).toNat)
  case atStart => exact ⟨0, Nat.zero_le _, rfl⟩
  case round =>
    obtain ⟨k, hk, rfl⟩ := hrel
    by_cases hlt : k < (nameS a).size
    · obtain ⟨s1, s2⟩ := name_small a k hlt
      have d1 : decide ((((nameS a)[k]'hlt).toNat : Int) < 97) = false := decide_eq_false (by omega)
      have d2 : decide ((122 : Int) < (((nameS a)[k]'hlt).toNat : Int)) = false := decide_eq_false (by omega)
      go_wp2
      go_round
      case rel => exact ⟨k + 1, by omega, by go_num⟩
      case measure => simp [intOf]; omega
    · by_cases h1 : 1 ≤ a
      · by_cases h14 : a ≤ 14
        · have he : (nameS a).toList.isEmpty = false := by rw [name_empty, decide_eq_true ⟨h1, h14⟩]; rfl
          go_wp2_with (go_at_call 10; refine (Name_any _ _ (T.below B2)).mono ?_; rintro e w3 ⟨rfl, hb3⟩)
          go_ret
          refine ⟨?_, B2.trans (hb3.mono B2.size)⟩
          rw [name_inj a b h1 h14]
          simp
        · have he : (nameS a).toList.isEmpty = true := by rw [name_empty, decide_eq_false (by omega)]; rfl
          have hd : decide (a ≤ 14) = false := decide_eq_false h14
          go_wp2
          go_ret
          exact ⟨rfl, B2⟩
      · have he : (nameS a).toList.isEmpty = true := by rw [name_empty, decide_eq_false (by omega)]; rfl
        have hd : decide (1 ≤ a) = false := decide_eq_false h1
        go_wp2
        go_ret
        exact ⟨rfl, B2⟩
end Go.Proofs.YtmmdjgjklbchfaaDoor
