/- What follows of 'mayB', said plainly -/
import Derived.Test.YtkiefbldkidobaaDoorInsPlain
namespace Go.Proofs.YtkiefbldkidobaaDoor

theorem may_parts {op d a b l i behind locs : Int} (h : mayB op d a b l i behind locs = true) :
    (1 ≤ op ∧ op ≤ 14) ∧ m1B op d = true ∧ m2B op a = true ∧ m3B op b = true ∧ m4B op l locs = true ∧ m5B op i behind = true := by
  unfold mayB at h
  simp only [Bool.and_eq_true, decide_eq_true_eq] at h
  exact h
theorem kind_cases (op : Int) : kindZ op = 0 ∨ kindZ op = 1 ∨ kindZ op = 2 := by
  unfold kindZ; split
  · simp
  · split <;> simp
theorem may_D {op d : Int} (h : m1B op d = true) : hasDB op = true → 0 ≤ d ∧ d ≤ 3 := by
  unfold m1B at h
  intro hd
  rw [hd] at h
  simp [regB] at h
  omega
theorem may_A {op a : Int} (h : m2B op a = true) : hasAB op = true → -1 ≤ a ∧ a ≤ 3 := by
  unfold m2B at h
  intro hd
  rw [hd] at h
  simp [regB, baseB] at h
  omega
theorem may_B {op b : Int} (h : m3B op b = true) : hasBB op = true → 0 ≤ b ∧ b ≤ 3 := by
  unfold m3B at h
  intro hd
  rw [hd] at h
  simp [regB] at h
  omega
theorem uses_reg {op d a b l i behind locs : Int} (h : mayB op d a b l i behind locs = true) : ∀ x ∈ usesL op a b, 0 ≤ x ∧ x ≤ 3 := by
  obtain ⟨_, _, h2, h3, _, _⟩ := may_parts h
  intro x hx
  unfold usesL at hx
  rcases List.mem_append.1 hx with hx | hx
  · split at hx
    · rename_i hc
      simp at hx; subst hx
      exact ⟨hc.2, (may_A h2 hc.1).2⟩
    · simp at hx
  · split at hx
    · rename_i hc
      simp at hx; subst hx
      exact may_B h3 hc.1
    · simp at hx
theorem uses_len (op a b : Int) : (usesL op a b).length ≤ 2 := by
  unfold usesL; rw [List.length_append]; split <;> split <;> simp
theorem gives_reg {op d a b l i behind locs : Int} (h : mayB op d a b l i behind locs = true) : -1 ≤ givesZ op d ∧ givesZ op d ≤ 3 := by
  obtain ⟨_, h1, _⟩ := may_parts h
  unfold givesZ
  cases hd : hasDB op
  · simp
  · have := may_D h1 hd; simp; omega
theorem kind_read {op : Int} (h : kindZ op = 1) : (op = 5 ∨ op = 7 ∨ op = 9) ∧ hasDB op = true ∧ hasAB op = true ∧ hasBB op = false := by
  unfold kindZ at h
  split at h
  · rename_i hc
    rcases hc with h | h | h <;> subst h <;> decide
  · split at h <;> omega
theorem kind_write {op : Int} (h : kindZ op = 2) : (op = 6 ∨ op = 8 ∨ op = 10) ∧ hasAB op = true ∧ hasBB op = true ∧ hasDB op = decide (op = 10) := by
  unfold kindZ at h
  split at h
  · omega
  · split at h
    · rename_i hc
      rcases hc with h | h | h <;> subst h <;> decide
    · omega
theorem may_wider1 {op d a b l i x y z : Int} (hz : 0 ≤ z) (h : mayB op d a b l i x y = true) : mayB op d a b l i (x + z) y = true := by
  obtain ⟨h0, h1, h2, h3, h4, h5⟩ := may_parts h
  have : m5B op i (x + z) = true := by
    unfold m5B at *
    cases hI : hasIB op
    · rw [hI] at h5; exact h5
    · rw [hI] at h5
      simp only [cond_true] at *
      unfold immB at *
      split at h5
      · rename_i hc; rw [if_pos hc]; exact h5
      · rename_i hc; rw [if_neg hc]
        split at h5
        · rename_i hc2; rw [if_pos hc2]; exact h5
        · rename_i hc2; rw [if_neg hc2]
          simp only [Bool.and_eq_true, decide_eq_true_eq] at *
          omega
  unfold mayB
  rw [decide_eq_true h0, h1, h2, h3, h4, this]; rfl
theorem may_wider2 {op d a b l i x y z : Int} (hz : 0 ≤ z) (h : mayB op d a b l i x y = true) : mayB op d a b l i x (y + z) = true := by
  obtain ⟨h0, h1, h2, h3, h4, h5⟩ := may_parts h
  have : m4B op l (y + z) = true := by
    unfold m4B at *
    cases hI : hasLB op
    · rw [hI] at h4; exact h4
    · rw [hI] at h4
      simp only [cond_true, Bool.and_eq_true, decide_eq_true_eq] at *
      omega
  unfold mayB
  rw [decide_eq_true h0, h1, h2, h3, this, h5]; rfl
theorem may_plain {op d a b l i x y : Int} (hk : kindZ op = 0) : mayB op d a b l i x 0 = mayB op d a b l i x y := by
  by_cases h0 : 1 ≤ op ∧ op ≤ 14
  · have hL : hasLB op = false := by
      unfold hasLB kindZ at *
      apply decide_eq_false
      intro h
      split at hk
      · omega
      · split at hk <;> omega
    unfold mayB m4B
    rw [hL]
    rfl
  · unfold mayB
    rw [decide_eq_false h0]
    rfl
theorem turned_D {op a b l i x y : Int} : mayB op 4 a b l i x y = false := by
  have : m1B op 4 = false := by unfold m1B; cases hasDB op <;> decide
  unfold mayB; rw [this]; simp
theorem turned_B {op d a l i x y : Int} : mayB op d a (-1) l i x y = false := by
  have : m3B op (-1) = false := by unfold m3B; cases hasBB op <;> decide
  unfold mayB; rw [this]; simp
theorem turned_A {op d b l i x y : Int} : mayB op d 4 b l i x y = false := by
  have : m2B op 4 = false := by
    unfold m2B baseB
    cases hasAB op
    · rfl
    · have : regB 4 = false := by decide
      rw [this]; simp
  unfold mayB; rw [this]; simp
theorem turned_L {op d a b l i x y : Int} (hy : 0 ≤ y) (hl : l < 0 ∨ l = y + 1) : mayB op d a b l i x y = false := by
  have : m4B op l y = false := by
    unfold m4B
    have h0 : (l == 0) = false := by simp; omega
    rw [h0]
    cases hasLB op
    · rfl
    · rcases hl with h | h
      · rw [decide_eq_false (show ¬ 0 ≤ l by omega)]; rfl
      · rw [decide_eq_false (show ¬ l < y by omega)]; simp
  unfold mayB; rw [this]; simp
theorem turned_O {d a b l i x y : Int} : mayB 15 d a b l i x y = false := by
  unfold mayB; rw [decide_eq_false (by omega)]; rfl
end Go.Proofs.YtkiefbldkidobaaDoor
