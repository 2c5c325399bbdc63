/- Contracts of package cupolaref01: the document's answers are the same functions of the numbers. -/
import Derived.Test.YtpmaifmokhnboaaGreatDoorInsMay
import Derived.Test.YtpmaifmokhnboaaGreatDoorInsP
namespace Go.Proofs.YtpmaifmokhnboaaGreatDoor
open Go.RowKit

set_option maxHeartbeats 4000000 in
theorem refKind_any (op d a b l i : Int) (w : World) :
    Calls Tryz.prog 89 #[.agg #[.int .i64 op, .int .i64 d, .int .i64 a, .int .i64 b, .int .i64 l, .int .i64 i]] w fun e w' => e = .returned (.int .i64 (kindZ op)) ∧ Below w.heap.size w w' := by
  rcases op_cases op with (h | h) | h | h | h | h | h | h | h | h | h | h | h | h | h | h
  · have e : kindZ op = 0 := by unfold kindZ; repeat rw [if_neg (by omega)]
    have n5 : (op == 5) = false := by simp; omega
    have n6 : (op == 6) = false := by simp; omega
    have n7 : (op == 7) = false := by simp; omega
    have n8 : (op == 8) = false := by simp; omega
    have n9 : (op == 9) = false := by simp; omega
    have n10 : (op == 10) = false := by simp; omega
    rw [e]
    go_enter Tryz.func89, Tryz.ntmps89
    go_wp2
    go_ret
    exact ⟨rfl, by go_grown⟩
  · have e : kindZ op = 0 := by unfold kindZ; repeat rw [if_neg (by omega)]
    have n5 : (op == 5) = false := by simp; omega
    have n6 : (op == 6) = false := by simp; omega
    have n7 : (op == 7) = false := by simp; omega
    have n8 : (op == 8) = false := by simp; omega
    have n9 : (op == 9) = false := by simp; omega
    have n10 : (op == 10) = false := by simp; omega
    rw [e]
    go_enter Tryz.func89, Tryz.ntmps89
    go_wp2
    go_ret
    exact ⟨rfl, by go_grown⟩
  all_goals
    subst h
    go_enter Tryz.func89, Tryz.ntmps89
    go_wp2
    go_ret
    exact ⟨rfl, by go_grown⟩

set_option maxHeartbeats 4000000 in
theorem refHasD_any (op d a b l i : Int) (w : World) :
    Calls Tryz.prog 117 #[.agg #[.int .i64 op, .int .i64 d, .int .i64 a, .int .i64 b, .int .i64 l, .int .i64 i]] w fun e w' => e = .returned (.bool (hasDB op)) ∧ Below w.heap.size w w' := by
  rcases op_cases op with (h | h) | h | h | h | h | h | h | h | h | h | h | h | h | h | h
  · have e : kindZ op = 0 := by unfold kindZ; repeat rw [if_neg (by omega)]
    have e1 : hasDB op = false := by unfold hasDB; exact decide_eq_false (by omega)
    have n10 : (op == 10) = false := by simp; omega
    have d1 : decide (1 ≤ op) = false := decide_eq_false (by omega)
    rw [e1]
    go_enter Tryz.func117, Tryz.ntmps117
    go_wp2_with fail
    refine (refKind_any _ _ _ _ _ _ _).mono ?_
    rintro e2 w1 ⟨rfl, hb⟩
    rw [e]
    obtain ⟨hc, hf⟩ := bcell hb
    go_wp2
    go_ret
    exact ⟨rfl, ((Below.refl _ _).alloc (Nat.le_refl _) _).trans (hb.mono (by simp))⟩
  · have e : kindZ op = 0 := by unfold kindZ; repeat rw [if_neg (by omega)]
    have e1 : hasDB op = false := by unfold hasDB; exact decide_eq_false (by omega)
    have n10 : (op == 10) = false := by simp; omega
    have d1 : decide (op ≤ 4) = false := decide_eq_false (by omega)
    rw [e1]
    go_enter Tryz.func117, Tryz.ntmps117
    go_wp2_with fail
    refine (refKind_any _ _ _ _ _ _ _).mono ?_
    rintro e2 w1 ⟨rfl, hb⟩
    rw [e]
    obtain ⟨hc, hf⟩ := bcell hb
    go_wp2
    go_ret
    exact ⟨rfl, ((Below.refl _ _).alloc (Nat.le_refl _) _).trans (hb.mono (by simp))⟩
  all_goals
    subst h
    go_enter Tryz.func117, Tryz.ntmps117
    go_wp2
    go_ret
    exact ⟨rfl, by go_grown⟩

set_option maxHeartbeats 4000000 in
theorem refHasA_any (op d a b l i : Int) (w : World) :
    Calls Tryz.prog 118 #[.agg #[.int .i64 op, .int .i64 d, .int .i64 a, .int .i64 b, .int .i64 l, .int .i64 i]] w fun e w' => e = .returned (.bool (hasAB op)) ∧ Below w.heap.size w w' := by
  rcases op_cases op with (h | h) | h | h | h | h | h | h | h | h | h | h | h | h | h | h
  · have e1 : hasAB op = false := by unfold hasAB; exact decide_eq_false (by omega)
    have d1 : decide (2 ≤ op) = false := decide_eq_false (by omega)
    rw [e1]
    go_enter Tryz.func118, Tryz.ntmps118
    go_wp2
    go_ret
    exact ⟨by simp; omega, by go_grown⟩
  · have e1 : hasAB op = false := by unfold hasAB; exact decide_eq_false (by omega)
    have d1 : decide (op ≤ 10) = false := decide_eq_false (by omega)
    rw [e1]
    go_enter Tryz.func118, Tryz.ntmps118
    go_wp2
    go_ret
    exact ⟨by simp; omega, by go_grown⟩
  all_goals
    subst h
    go_enter Tryz.func118, Tryz.ntmps118
    go_wp2
    go_ret
    exact ⟨rfl, by go_grown⟩

set_option maxHeartbeats 4000000 in
theorem refHasB_any (op d a b l i : Int) (w : World) :
    Calls Tryz.prog 119 #[.agg #[.int .i64 op, .int .i64 d, .int .i64 a, .int .i64 b, .int .i64 l, .int .i64 i]] w fun e w' => e = .returned (.bool (hasBB op)) ∧ Below w.heap.size w w' := by
  rcases op_cases op with (h | h) | h | h | h | h | h | h | h | h | h | h | h | h | h | h
  · have e : kindZ op = 0 := by unfold kindZ; repeat rw [if_neg (by omega)]
    have e1 : hasBB op = false := by unfold hasBB; exact decide_eq_false (by omega)
    have d1 : decide (2 ≤ op) = false := decide_eq_false (by omega)
    rw [e1]
    go_enter Tryz.func119, Tryz.ntmps119
    go_wp2_with fail
    refine (refKind_any _ _ _ _ _ _ _).mono ?_
    rintro e2 w1 ⟨rfl, hb⟩
    rw [e]
    go_wp2
    go_ret
    exact ⟨rfl, ((Below.refl _ _).alloc (Nat.le_refl _) _).trans (hb.mono (by simp))⟩
  · have e : kindZ op = 0 := by unfold kindZ; repeat rw [if_neg (by omega)]
    have e1 : hasBB op = false := by unfold hasBB; exact decide_eq_false (by omega)
    have d1 : decide (op ≤ 4) = false := decide_eq_false (by omega)
    rw [e1]
    go_enter Tryz.func119, Tryz.ntmps119
    go_wp2_with fail
    refine (refKind_any _ _ _ _ _ _ _).mono ?_
    rintro e2 w1 ⟨rfl, hb⟩
    rw [e]
    go_wp2
    go_ret
    exact ⟨rfl, ((Below.refl _ _).alloc (Nat.le_refl _) _).trans (hb.mono (by simp))⟩
  all_goals
    subst h
    go_enter Tryz.func119, Tryz.ntmps119
    go_wp2
    go_ret
    exact ⟨rfl, by go_grown⟩

set_option maxHeartbeats 4000000 in
theorem refName_any (op : Int) (w : World) :
    Calls Tryz.prog 115 #[.int .i64 op] w fun e w' => e = .returned (.string (nameS op)) ∧ Below w.heap.size w w' := by
  rcases op_cases op with (h | h) | h | h | h | h | h | h | h | h | h | h | h | h | h | h
  · have e : nameS op = ⟨#[]⟩ := by unfold nameS; repeat rw [if_neg (by omega)]
    rw [e]
    go_enter Tryz.func115, Tryz.ntmps115
    go_wp2
    go_ret
    exact ⟨rfl, by go_grown⟩
  · have e : nameS op = ⟨#[]⟩ := by unfold nameS; repeat rw [if_neg (by omega)]
    rw [e]
    go_enter Tryz.func115, Tryz.ntmps115
    go_wp2
    go_ret
    exact ⟨rfl, by go_grown⟩
  all_goals
    subst h
    go_enter Tryz.func115, Tryz.ntmps115
    go_wp2
    go_ret
    exact ⟨rfl, by go_grown⟩

set_option maxHeartbeats 400000 in
theorem refreg_any (h : Bool) (n least : Int) (w : World) :
    Calls Tryz.prog 116 #[.bool h, .int .i64 n, .int .i64 least] w fun e w' => e = .returned (.bool (bif h then decide (least ≤ n) && decide (n ≤ 3) else (n == 0))) ∧ w' = w := by
  cases h
  · go_enter Tryz.func116, Tryz.ntmps116
    go_wp2
    go_ret
    exact ⟨rfl, rfl⟩
  · by_cases hl : least ≤ n
    all_goals
      go_enter Tryz.func116, Tryz.ntmps116
      go_wp2
      go_ret
      exact ⟨by simp [hl] <;> omega, rfl⟩
theorem refreg_is (h : Bool) (n least : Int) (r : Bool) (w : World) (hr : (bif h then decide (least ≤ n) && decide (n ≤ 3) else (n == 0)) = r) :
    Calls Tryz.prog 116 #[.bool h, .int .i64 n, .int .i64 least] w fun e w' => e = .returned (.bool r) ∧ w' = w := by
  subst hr; exact refreg_any h n least w
end Go.Proofs.YtpmaifmokhnboaaGreatDoor
