/- What follows, plainly, of tests, bare and fenced ones. -/
import Derived.Test.YtpmaifmokhnboaaGreatDoorTestP
import Derived.Test.YtpmaifmokhnboaaGreatDoorInsP
namespace Go.Proofs.YtpmaifmokhnboaaGreatDoor

theorem skip_op (x : Ins) (n : Int) : (skipZ x n).op = x.op := by unfold skipZ; cases brB x.op <;> rfl
theorem skip_skip (x : Ins) (n m : Int) : skipZ (skipZ x n) m = skipZ x m := by
  unfold skipZ
  cases h : brB x.op
  · simp [h]
  · simp [h]
theorem lay0_skip (x : Ins) (n : Int) : (lay0 (skipZ x n)).length = (lay0 x).length := by unfold lay0; rw [skip_op]; cases fnB x.op <;> rfl
theorem lay1_skip (x : Ins) (n : Int) : (lay1 (skipZ x n)).length = (lay1 x).length := by unfold lay1; rw [skip_op]; split <;> rfl
theorem laid_cons' {lay : Ins → List Ins} {x : Ins} {xs : List Ins} : laid lay (x :: xs) = ((lay x).length : Int) + laid lay xs := by unfold laid; simp
theorem laid_append {lay : Ins → List Ins} {xs ys : List Ins} : laid lay (xs ++ ys) = laid lay xs + laid lay ys := by unfold laid; simp
theorem laid_nil {lay : Ins → List Ins} : laid lay [] = 0 := rfl
theorem laid_nonneg {lay : Ins → List Ins} {xs : List Ins} : 0 ≤ laid lay xs := by unfold laid; omega
theorem laid_take_le {lay : Ins → List Ins} (n : Nat) (xs : List Ins) : laid lay (xs.take n) ≤ laid lay xs := by
  have := laid_append (lay := lay) (xs := xs.take n) (ys := xs.drop n)
  rw [List.take_append_drop] at this
  have := laid_nonneg (lay := lay) (xs := xs.drop n)
  omega
theorem relay_length {lay : Ins → List Ins} (h : ∀ x n, (lay (skipZ x n)).length = (lay x).length) (l : List Ins) : ((relay lay l).length : Int) = laid lay l := by
  induction l with
  | nil => rfl
  | cons x xs ih => rw [relay, List.length_append, h, laid_cons', ← ih]; omega

theorem fn_br {op : Int} (h : brB op = true) : fnB op = false ∧ kindZ op = 0 := by
  unfold brB at h
  simp only [Bool.or_eq_true, beq_iff_eq] at h
  rcases h with h | h <;> subst h <;> decide
theorem kind_fn {op : Int} (h : kindZ op ≠ 0) : fnB op = false ∧ brB op = false := by
  rcases kind_cases op with hk | hk | hk
  · exact absurd hk h
  · obtain ⟨h1, _⟩ := kind_read hk; rcases h1 with h | h | h <;> subst h <;> decide
  · obtain ⟨h1, _⟩ := kind_write hk; rcases h1 with h | h | h <;> subst h <;> decide

theorem inside_append1 {x : Ins} {xs : List Ins} (h : inside xs = true) (hb : brB x.op = true → 0 ≤ x.i ∧ x.i ≤ xs.length) : inside (x :: xs) = true := by
  unfold inside
  rw [h]
  cases hx : brB x.op
  · rfl
  · have := hb hx; simp; omega

/-- Branches of a bare thread stay within it. -/
theorem inside_bare (l : List Ins) : inside (bareL l) = true := by
  unfold bareL
  induction l with
  | nil => rfl
  | cons x xs ih =>
    rw [relay]
    unfold lay0
    rw [skip_op]
    cases hf : fnB x.op
    · refine inside_append1 ih (fun hb => ?_)
      rw [skip_op] at hb
      unfold skipZ
      rw [hb]
      simp only [cond_true]
      have h1 := relay_length lay0_skip xs
      exact ⟨laid_nonneg, by show laid lay0 _ ≤ ((relay lay0 xs).length : Int); rw [h1]; exact laid_take_le _ _⟩
    · exact ih

/-- What may be has its branches within. -/
theorem bad_inside {locs : Int} : ∀ {l : List Ins} {k : Nat}, badAt locs l k = none → inside l = true
  | [], _, _ => rfl
  | x :: xs, k, h => by
    rw [badAt] at h
    cases hm : mayI x xs.length locs
    · rw [hm] at h; cases h
    · rw [hm] at h
      refine inside_append1 (bad_inside (l := xs) (k := k + 1) h) (fun hb => ?_)
      obtain ⟨_, _, _, _, _, h5⟩ := may_parts hm
      unfold brB at hb
      simp only [Bool.or_eq_true, beq_iff_eq] at hb
      have hI : hasIB x.op = true := by rcases hb with h | h <;> rw [h] <;> decide
      unfold m5B at h5
      rw [hI] at h5
      simp only [cond_true] at h5
      unfold immB at h5
      rw [if_neg (by omega), if_neg (by omega)] at h5
      simpa using h5
theorem thr_ok {locs : Int} {l : List Ins} (h : (thrE locs l).2 = 0) : 1 ≤ l.length ∧ l.length ≤ 8 ∧ badAt locs l 0 = none := by
  unfold thrE at h
  split at h
  · simp at h
  · cases hb : badAt locs l 0 with
    | none => exact ⟨by omega, by omega, rfl⟩
    | some k => rw [hb] at h; simp at h
theorem thrs_ok {locs : Int} : ∀ {ts : List (List Ins)} {i : Nat}, thrsE locs ts i = none → ∀ l ∈ ts, 1 ≤ l.length ∧ l.length ≤ 8 ∧ badAt locs l 0 = none
  | [], _, _, l, hl => by cases hl
  | t :: ts, i, h, l, hl => by
    rw [thrsE] at h
    split at h
    · rename_i h0
      rcases List.mem_cons.1 hl with rfl | hl
      · exact thr_ok h0
      · exact thrs_ok h l hl
    · cases h
theorem thrsE_err {locs : Int} : ∀ {ts : List (List Ins)} {i : Nat} {r : Int × Int × Int}, thrsE locs ts i = some r → r.2.2 ≠ 0
  | [], _, _, h => by cases h
  | t :: ts, i, r, h => by
    rw [thrsE] at h
    split at h
    · exact thrsE_err h
    · rename_i h0
      cases h
      exact h0
theorem check_parts {xs : List Int} {ts : List (List Ins)} (h : (checkZ xs ts).2.2 = 0) :
    initB xs = true ∧ 1 ≤ ts.length ∧ ts.length ≤ 3 ∧ thrsE xs.length ts 0 = none ∧ (cntTs ts 0 0).1 + (cntTs ts 0 0).2 ≤ 6 ∧ (cntTs ts 0 0).1 ≤ 4 := by
  unfold checkZ at h
  split at h
  · simp at h
  · rename_i h1
    cases ht : thrsE xs.length ts 0 with
    | some r => rw [ht] at h; exact absurd h (thrsE_err ht)
    | none =>
      rw [ht] at h
      simp only at h
      split at h
      · simp at h
      · rename_i h2
        refine ⟨?_, by omega, by omega, rfl, by omega, by omega⟩
        cases hi : initB xs
        · exact absurd (.inl hi) h1
        · rfl
theorem check_make {xs : List Int} {ts : List (List Ins)} (h0 : initB xs = true) (h1 : 1 ≤ ts.length) (h2 : ts.length ≤ 3) (h3 : thrsE xs.length ts 0 = none) (h4 : (cntTs ts 0 0).1 + (cntTs ts 0 0).2 ≤ 6) (h5 : (cntTs ts 0 0).1 ≤ 4) : checkZ xs ts = (0, 0, 0) := by
  unfold checkZ
  rw [if_neg (by rintro (h | h | h); rw [h0] at h; cases h; omega; omega), h3]
  simp only
  rw [if_neg (by omega)]
theorem check_inside {xs : List Int} {ts : List (List Ins)} (h : (checkZ xs ts).2.2 = 0) : ∀ l ∈ ts, l.length ≤ 8 ∧ inside l = true := fun l hl => by
  obtain ⟨_, _, _, ht, _⟩ := check_parts h
  have := thrs_ok ht l hl
  exact ⟨this.2.1, bad_inside this.2.2⟩
def bareT (xs : List Int) (ts : List (List Ins)) : List (List Ins) := if (checkZ xs ts).2.2 = 0 then ts.map bareL else ts
def fencedT (xs : List Int) (ts : List (List Ins)) : List (List Ins) := if (checkZ xs ts).2.2 = 0 then ts.map fencedL else ts
theorem bareL_len (l : List Ins) : (bareL l).length ≤ l.length := by
  have h := relay_length lay0_skip l
  have : laid lay0 l ≤ l.length := by
    clear h
    induction l with
    | nil => simp [laid]
    | cons x xs ih =>
      rw [laid_cons', List.length_cons]
      have : (lay0 x).length ≤ 1 := by unfold lay0; cases fnB x.op <;> simp
      omega
  unfold bareL; omega
end Go.Proofs.YtpmaifmokhnboaaGreatDoor
