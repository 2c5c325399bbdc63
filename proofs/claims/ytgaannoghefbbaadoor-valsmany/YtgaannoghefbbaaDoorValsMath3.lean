/- Of, as plain data; what bounds it. -/
import Derived.Test.YtgaannoghefbbaaDoorValsMath2
import Derived.Test.YtgaannoghefbbaaDoorTestMath
namespace Go.Proofs.YtgaannoghefbbaaDoor
open Go.RowKit

theorem kind_ld {x : Ins} : kindZ x.op = 1 ↔ ldB x = true := by
  rw [ld_is]
  unfold kindZ
  by_cases h : x.op = 5 ∨ x.op = 7 ∨ x.op = 9
  · rw [if_pos h]; exact ⟨fun _ => h, fun _ => rfl⟩
  · rw [if_neg h]
    refine ⟨fun k => ?_, fun k => absurd k h⟩
    split at k <;> cases k
theorem loadsN_le (th : List Ins) : loadsN th ≤ th.length := List.length_filter_le _ _
/-- Stores. -/
def storesN (th : List Ins) : Nat := (th.filter fun x => kindZ x.op == 2).length
def loadsTs : List (List Ins) → Nat
  | [] => 0
  | th :: ts => loadsN th + loadsTs ts
def storesTs : List (List Ins) → Nat
  | [] => 0
  | th :: ts => storesN th + storesTs ts
theorem cntT_is : ∀ (l : List Ins) (a b : Int), cntT l a b = (a + (loadsN l : Nat), b + (storesN l : Nat))
  | [], a, b => by simp [cntT, loadsN, storesN]
  | x :: l, a, b => by
    rw [cntT]
    by_cases h1 : kindZ x.op = 1
    · have e1 : loadsN (x :: l) = loadsN l + 1 := by unfold loadsN; rw [List.filter_cons_of_pos (kind_ld.1 h1)]; rfl
      have e2 : storesN (x :: l) = storesN l := by unfold storesN; rw [List.filter_cons_of_neg (by simp [h1])]
      rw [if_pos h1, cntT_is l, e1, e2]
      congr 1; omega
    · have e1 : loadsN (x :: l) = loadsN l := by unfold loadsN; rw [List.filter_cons_of_neg (fun k => h1 (kind_ld.2 k))]
      rw [if_neg h1]
      by_cases h2 : kindZ x.op = 2
      · have e2 : storesN (x :: l) = storesN l + 1 := by unfold storesN; rw [List.filter_cons_of_pos (by simp [h2])]; rfl
        rw [if_pos h2, cntT_is l, e1, e2]
        congr 1; omega
      · have e2 : storesN (x :: l) = storesN l := by unfold storesN; rw [List.filter_cons_of_neg (by simp [h2])]
        rw [if_neg h2, cntT_is l, e1, e2]
theorem cntTs_is : ∀ (ts : List (List Ins)) (a b : Int), cntTs ts a b = (a + (loadsTs ts : Nat), b + (storesTs ts : Nat))
  | [], a, b => by simp [cntTs, loadsTs, storesTs]
  | th :: ts, a, b => by
    rw [cntTs, cntTs_is ts, cntT_is th]
    simp only [loadsTs, storesTs]
    congr 1 <;> omega
theorem loadsTs_mem : ∀ {ts : List (List Ins)} {th : List Ins}, th ∈ ts → loadsN th ≤ loadsTs ts
  | t :: ts, th, h => by
    rcases List.mem_cons.1 h with rfl | h
    · exact Nat.le_add_right _ _
    · exact Nat.le_trans (loadsTs_mem h) (Nat.le_add_left _ _)
/-- How many traces there may be of all threads. -/
def sum16 : List (List Ins) → Nat
  | [] => 0
  | th :: ts => 16 ^ loadsN th + sum16 ts
theorem mul_more {x y : Nat} (hx : 1 ≤ x) (hy : 1 ≤ y) : x + y ≤ x * y + 1 := by
  obtain ⟨a, rfl⟩ : ∃ a, x = a + 1 := ⟨x - 1, by omega⟩
  obtain ⟨b, rfl⟩ : ∃ b, y = b + 1 := ⟨y - 1, by omega⟩
  rw [Nat.add_mul, Nat.mul_add, Nat.one_mul, Nat.mul_one]
  have : 0 ≤ a * b := Nat.zero_le _
  omega
theorem sum16_le : ∀ ts : List (List Ins), sum16 ts ≤ 16 ^ loadsTs ts + ts.length
  | [] => by simp [sum16]
  | th :: ts => by
    have h1 := sum16_le ts
    have h2 := mul_more (x := 16 ^ loadsN th) (y := 16 ^ loadsTs ts) (Nat.pow_pos (by decide)) (Nat.pow_pos (by decide))
    simp only [sum16, loadsTs, List.length_cons, Nat.pow_add]
    omega
theorem sum16_take {ts : List (List Ins)} {k : Nat} {th : List Ins} (h : ts[k]? = some th) : sum16 (ts.take (k + 1)) = sum16 (ts.take k) + 16 ^ loadsN th := by
  induction ts generalizing k with
  | nil => simp at h
  | cons t ts ih =>
    cases k with
    | zero => simp at h; subst h; simp [sum16]
    | succ k =>
      simp only [List.getElem?_cons_succ] at h
      rw [List.take_succ_cons, List.take_succ_cons]
      simp only [sum16]
      rw [ih h]
      omega
theorem sum16_part : ∀ {ts : List (List Ins)} {k : Nat}, sum16 (ts.take k) ≤ sum16 ts
  | [], k => by simp
  | t :: ts, 0 => by simp [sum16]
  | t :: ts, k + 1 => by
    rw [List.take_succ_cons]
    simp only [sum16]
    have := sum16_part (ts := ts) (k := k)
    omega
/-- What is known of a test that may be. -/
theorem check_facts {xs : List Int} {ts : List (List Ins)} (h : (checkZ xs ts).2.2 = 0) :
    1 ≤ xs.length ∧ xs.length ≤ 3 ∧ 1 ≤ ts.length ∧ ts.length ≤ 3 ∧ loadsTs ts ≤ 4 ∧ storesTs ts ≤ 6 ∧ (∀ th ∈ ts, th.length ≤ 8) ∧ sum16 ts ≤ 65539 := by
  obtain ⟨h0, h1, h2, h3, h4, h5⟩ := check_parts h
  rw [cntTs_is] at h4 h5
  simp only [Int.zero_add] at h4 h5
  have h6 : xs.length ≤ 3 ∧ 1 ≤ xs.length := by
    unfold initB at h0
    simp only [Bool.and_eq_true, decide_eq_true_eq] at h0
    omega
  refine ⟨h6.2, h6.1, h1, h2, by omega, by omega, fun th ht => (thrs_ok h3 th ht).2.1, ?_⟩
  have h7 := sum16_le ts
  have h8 : 16 ^ loadsTs ts ≤ 16 ^ 4 := Nat.pow_le_pow_right (by decide) (by omega)
  have e : (16 : Nat) ^ 4 = 65536 := by decide
  omega
/-- The values that may be read, and the error. -/
def ofZ (xs : List Int) (ts : List (List Ins)) : List Int × Int :=
  if (checkZ xs ts).2.2 = 0 then
    match closeN ts xs.length (storesTs ts) (putsN [] xs) with
    | some l => (l, 0)
    | none => ([], 3)
  else ([], (checkZ xs ts).2.2)
end Go.Proofs.YtgaannoghefbbaaDoor
