/- The contract of cupolaref01.May: it answers 'mayB'. -/
import Derived.Test.YtpmaifmokhnboaaDoorInsRef
namespace Go.Proofs.YtpmaifmokhnboaaDoor
open Go.RowKit
attribute [local go_sem] Ext.cell Ext.frozen

theorem m2_least {op a : Int} (k : Int) (hk : kindZ op = k) (h : k = 0 ∨ k = 1 ∨ k = 2) : (bif hasAB op then decide ((if 0 < k then (-1 : Int) else 0) ≤ a) && decide (a ≤ 3) else (a == 0)) = m2B op a := by
  unfold m2B baseB regB
  rw [hk]
  cases hasAB op
  · rfl
  · simp only [cond_true]
    rcases h with rfl | rfl | rfl
    · have : (decide (a ≤ 3)) = decide (a < 4) := by congr 1; exact propext (by omega)
      rw [if_neg (by decide), this]; simp
    · rw [if_pos (by decide), Bool.eq_iff_iff]; simp; omega
    · rw [if_pos (by decide), Bool.eq_iff_iff]; simp; omega
theorem m1_reg {op d : Int} : (bif hasDB op then decide ((0 : Int) ≤ d) && decide (d ≤ 3) else (d == 0)) = m1B op d := by
  unfold m1B regB
  have : (decide (d ≤ 3)) = decide (d < 4) := by congr 1; exact propext (by omega)
  rw [this]
theorem m3_reg {op b : Int} : (bif hasBB op then decide ((0 : Int) ≤ b) && decide (b ≤ 3) else (b == 0)) = m3B op b := by
  unfold m3B regB
  have : (decide (b ≤ 3)) = decide (b < 4) := by congr 1; exact propext (by omega)
  rw [this]
theorem hasL_kind {op : Int} : hasLB op = decide (kindZ op ≠ 0) := by
  unfold hasLB kindZ
  split
  · rw [decide_eq_true (by omega)]; rfl
  · split
    · rw [decide_eq_true (by omega)]; rfl
    · rw [decide_eq_false (by omega)]; rfl

/-- How the places of an instruction may be: in the document's own turn. -/
def locIs (l locs : Int) (k : Int) (r : Bool) : Prop :=
  (k = 0 ∧ (l == 0) = r) ∨ (0 < k ∧ 0 ≤ l ∧ decide (l < locs) = r) ∨ (0 < k ∧ l < 0 ∧ r = false)
theorem loc_is (op l locs : Int) : locIs l locs (kindZ op) (m4B op l locs) := by
  unfold locIs m4B
  rw [hasL_kind]
  rcases kind_cases op with h | h | h
  · rw [h]; left; simp
  · rw [h]; right
    by_cases hl : 0 ≤ l
    · left; simp [hl]
    · right; simp; omega
  · rw [h]; right
    by_cases hl : 0 ≤ l
    · left; simp [hl]
    · right; simp; omega

/-- The arguments of the three calls of reg, said as they stand there. -/
theorem refMay_regs {op d a b k : Int} (hk : kindZ op = k) :
    ((bif hasDB op then decide ((0 : Int) ≤ d) && decide (d ≤ 3) else (d == 0)) = m1B op d) ∧ (k = 0 → (bif hasAB op then decide ((0 : Int) ≤ a) && decide (a ≤ 3) else (a == 0)) = m2B op a) ∧
    (0 < k → (bif hasAB op then decide ((-1 : Int) ≤ a) && decide (a ≤ 3) else (a == 0)) = m2B op a) ∧ ((bif hasBB op then decide ((0 : Int) ≤ b) && decide (b ≤ 3) else (b == 0)) = m3B op b) := by
  have hc : k = 0 ∨ k = 1 ∨ k = 2 := by rw [← hk]; exact kind_cases op
  have h2 := m2_least (a := a) k hk hc
  refine ⟨m1_reg, fun h0 => ?_, fun h0 => ?_, m3_reg⟩
  · rw [if_neg (by omega)] at h2; exact h2
  · rw [if_pos h0] at h2; exact h2

theorem m5_is (op i behind : Int) (h : 1 ≤ op ∧ op ≤ 14) : (op = 1 ∧ m5B op i behind = (decide (-1000 ≤ i) && decide (i ≤ 1000))) ∨ (op = 11 ∧ m5B op i behind = (decide (0 ≤ i) && decide (i ≤ 2))) ∨
    (op = 13 ∧ m5B op i behind = (decide (0 ≤ i) && decide (i ≤ behind))) ∨ (op = 14 ∧ m5B op i behind = (decide (0 ≤ i) && decide (i ≤ behind))) ∨ ((op ≠ 1 ∧ op ≠ 11 ∧ op ≠ 13 ∧ op ≠ 14) ∧ m5B op i behind = (i == 0)) := by
  by_cases h1 : op = 1
  · left; subst h1; exact ⟨rfl, rfl⟩
  by_cases h2 : op = 11
  · right; left; subst h2; exact ⟨rfl, rfl⟩
  by_cases h3 : op = 13
  · right; right; left; subst h3; exact ⟨rfl, rfl⟩
  by_cases h4 : op = 14
  · right; right; right; left; subst h4; exact ⟨rfl, rfl⟩
  right; right; right; right
  refine ⟨⟨h1, h2, h3, h4⟩, ?_⟩
  have : hasIB op = false := by unfold hasIB; exact decide_eq_false (by omega)
  unfold m5B
  rw [this]; rfl

end Go.Proofs.YtpmaifmokhnboaaDoor
