/- Sizes of tests, and of the values that may be read. -/
import Derived.Test.YtcalinfdckklfaaGreatDoorPk9
import Derived.Test.YtcalinfdckklfaaGreatDoorPk8
namespace Go.Proofs.YtcalinfdckklfaaGreatDoor
open Go.RowKit

theorem size_le {ts : List (List Ins)} {n : Nat} (h : ∀ l ∈ ts, l.length ≤ n) : sizeTs ts ≤ n * ts.length := by
  induction ts with
  | nil => simp [sizeTs]
  | cons t ts ih =>
    rw [sizeTs, List.length_cons, Nat.mul_add]
    have h1 := h t (by simp)
    have h2 := ih fun l hl => h l (by simp [hl])
    omega
theorem few_size {xs : List Int} {ts : List (List Ins)} (h : fewB xs ts = true) : sizeTs ts ≤ 400 ∧ ts.length ≤ 10 ∧ xs.length ≤ 10 ∧ ∀ l ∈ ts, l.length ≤ 40 := by
  unfold fewB at h
  simp only [Bool.and_eq_true, decide_eq_true_eq, List.all_eq_true] at h
  have := size_le h.2
  exact ⟨by omega, h.1.2, h.1.1, h.2⟩
theorem ofZ_len {xs : List Int} {ts : List (List Ins)} : (ofZ xs ts).1.length ≤ 8 := by
  unfold ofZ
  split
  · rename_i h0
    have h3 := (check_facts h0).2.1
    split
    · rename_i l hl
      exact closeN_len (by have h1 : (putsN [] xs).length ≤ _ := putsN_len; simp only [List.length_nil] at h1; omega) hl
    · exact Nat.zero_le _
  · exact Nat.zero_le _

end Go.Proofs.YtcalinfdckklfaaGreatDoor
