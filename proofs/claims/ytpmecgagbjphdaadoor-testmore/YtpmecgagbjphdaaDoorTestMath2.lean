/- What follows, plainly, of counts, and of tests with their threads the other way round. -/
import Derived.Test.YtpmecgagbjphdaaDoorTestMath
namespace Go.Proofs.YtpmecgagbjphdaaDoor

def cR (l : List Ins) : Int := (cntT l 0 0).1
def cW (l : List Ins) : Int := (cntT l 0 0).2
def cRs : List (List Ins) → Int
  | [] => 0
  | l :: ls => cR l + cRs ls
def cWs : List (List Ins) → Int
  | [] => 0
  | l :: ls => cW l + cWs ls
theorem cntT_add (l : List Ins) : ∀ a b : Int, cntT l a b = (a + cR l, b + cW l) := by
  have key : ∀ (l : List Ins) (a b : Int), cntT l a b = (a + (cntT l 0 0).1, b + (cntT l 0 0).2) := by
    intro l
    induction l with
    | nil => intro a b; simp [cntT]
    | cons x xs ih =>
      intro a b
      simp only [cntT]
      split
      · rw [ih (a + 1) b, ih (0 + 1) 0]; simp only [Prod.mk.injEq]; omega
      · split
        · rw [ih a (b + 1), ih 0 (0 + 1)]; simp only [Prod.mk.injEq]; omega
        · exact ih a b
  exact key l
theorem cntTs_add (ts : List (List Ins)) : ∀ a b : Int, cntTs ts a b = (a + cRs ts, b + cWs ts) := by
  induction ts with
  | nil => intro a b; simp [cntTs, cRs, cWs]
  | cons l ls ih => intro a b; rw [cntTs, cntT_add, ih, cRs, cWs]; simp only [Prod.mk.injEq]; omega
theorem cRs_append (a b : List (List Ins)) : cRs (a ++ b) = cRs a + cRs b ∧ cWs (a ++ b) = cWs a + cWs b := by
  induction a with
  | nil => simp [cRs, cWs]
  | cons l ls ih => simp only [List.cons_append, cRs, cWs]; omega
theorem cRs_reverse (ts : List (List Ins)) : cRs ts.reverse = cRs ts ∧ cWs ts.reverse = cWs ts := by
  induction ts with
  | nil => simp
  | cons l ls ih =>
    rw [List.reverse_cons, (cRs_append _ _).1, (cRs_append _ _).2]
    simp only [cRs, cWs]
    omega
theorem cR_bd (l : List Ins) : 0 ≤ cR l ∧ 0 ≤ cW l ∧ cR l + cW l ≤ l.length := by
  induction l with
  | nil => simp [cR, cW, cntT]
  | cons x xs ih =>
    unfold cR cW at *
    simp only [cntT, List.length_cons]
    split
    · rw [cntT_add]; unfold cR cW; simp only; omega
    · split
      · rw [cntT_add]; unfold cR cW; simp only; omega
      · omega
theorem cRs_bd (ts : List (List Ins)) : 0 ≤ cRs ts ∧ 0 ≤ cWs ts ∧ cRs ts + cWs ts ≤ sizeTs ts := by
  induction ts with
  | nil => simp [cRs, cWs, sizeTs]
  | cons l ls ih => have := cR_bd l; simp only [cRs, cWs, sizeTs]; omega
theorem size_append (a b : List (List Ins)) : sizeTs (a ++ b) = sizeTs a + sizeTs b := by
  induction a with
  | nil => simp [sizeTs]
  | cons l ls ih => simp only [List.cons_append, sizeTs]; omega
theorem size_reverse (ts : List (List Ins)) : sizeTs ts.reverse = sizeTs ts := by
  induction ts with
  | nil => rfl
  | cons l ls ih => rw [List.reverse_cons, size_append]; simp only [sizeTs]; omega
theorem thrs_none {locs : Int} : ∀ {ts : List (List Ins)} {i : Nat}, (∀ l ∈ ts, (thrE locs l).2 = 0) → thrsE locs ts i = none
  | [], _, _ => rfl
  | t :: ts, i, h => by rw [thrsE, if_pos (h t (by simp))]; exact thrs_none (fun l hl => h l (by simp [hl]))
theorem thrs_all {locs : Int} : ∀ {ts : List (List Ins)} {i : Nat}, thrsE locs ts i = none → ∀ l ∈ ts, (thrE locs l).2 = 0
  | [], _, _, l, hl => by cases hl
  | t :: ts, i, h, l, hl => by
    rw [thrsE] at h
    split at h
    · rename_i h0
      rcases List.mem_cons.1 hl with rfl | hl
      · exact h0
      · exact thrs_all h l hl
    · cases h
theorem check_rev1 {xs : List Int} {ts : List (List Ins)} (h : (checkZ xs ts).2.2 = 0) : (checkZ xs ts.reverse).2.2 = 0 := by
  obtain ⟨h0, h1, h2, h3, h4, h5⟩ := check_parts h
  rw [cntTs_add] at h4 h5
  rw [check_make h0 (by simpa using h1) (by simpa using h2) (thrs_none fun l hl => thrs_all h3 l (by simpa using hl)) (by rw [cntTs_add, (cRs_reverse ts).1, (cRs_reverse ts).2]; exact h4) (by rw [cntTs_add, (cRs_reverse ts).1]; exact h5)]
theorem check_rev (xs : List Int) (ts : List (List Ins)) : ((checkZ xs ts).2.2 == 0) = ((checkZ xs ts.reverse).2.2 == 0) := by
  rw [Bool.eq_iff_iff]
  simp only [beq_iff_eq]
  exact ⟨check_rev1, fun h => by have := check_rev1 h; rwa [List.reverse_reverse] at this⟩
end Go.Proofs.YtpmecgagbjphdaaDoor
