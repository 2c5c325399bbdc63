/- Orders as plain data: the placed ones as bits. -/
import Derived.Test.YtpgbedaonjfpnaaOrdMath
namespace Go.Proofs.Ytpgbedaonjfpnaa

/-- The bits of a list. -/
def mask : List Nat → Nat := List.foldl (fun p k => p ||| 2 ^ k) 0
theorem mask_snoc (l : List Nat) (k : Nat) : mask (l ++ [k]) = mask l ||| 2 ^ k := by simp [mask]
theorem mask_bit (l : List Nat) (i : Nat) : (mask l).testBit i = l.contains i := by
  have : ∀ (l : List Nat) (p : Nat), (l.foldl (fun p k => p ||| 2 ^ k) p).testBit i = (p.testBit i || l.contains i) := by
    intro l
    induction l with
    | nil => intro p; simp
    | cons k l ih =>
      intro p
      rw [List.foldl_cons, ih, Nat.testBit_or, Nat.testBit_two_pow, List.contains_cons, Bool.or_assoc]
      congr 2
      by_cases h : k = i
      · subst h; simp
      · rw [decide_eq_false h]; symm; exact beq_eq_false_iff_ne.2 fun e => h e.symm
  have h := this l 0
  rw [Nat.zero_testBit, Bool.false_or] at h
  exact h
theorem mask_lt {l : List Nat} (h : ∀ a ∈ l, a < 32) : mask l < 4294967296 := by
  have : ∀ (l : List Nat) (p : Nat), p < 2 ^ 32 → (∀ a ∈ l, a < 32) → l.foldl (fun p k => p ||| 2 ^ k) p < 2 ^ 32 := by
    intro l
    induction l with
    | nil => intro p hp _; exact hp
    | cons k l ih => intro p hp h; exact ih _ (Nat.or_lt_two_pow hp (Nat.pow_lt_pow_right (by decide) (h k (by simp)))) fun a ha => h a (by simp [ha])
  exact this l 0 (by decide) h

theorem andNot_iff {a p : Nat} (ha : a < 2 ^ 32) (hp : p < 2 ^ 32) : (a &&& (4294967295 - p) == 0) = true ↔ ∀ i, a.testBit i = true → p.testBit i = true := by
  rw [beq_iff_eq]
  have hb : ∀ i, (4294967295 - p).testBit i = (decide (i < 32) && !p.testBit i) := fun i => by
    have : 4294967295 - p = 2 ^ 32 - (p + 1) := by omega
    rw [this, Nat.testBit_two_pow_sub_succ hp]
  constructor
  · intro h i hi
    have h1 : (a &&& (4294967295 - p)).testBit i = false := by rw [h]; simp
    rw [Nat.testBit_and, hb, hi] at h1
    have hi32 : i < 32 := by
      rcases Nat.lt_or_ge i 32 with h2 | h2
      · exact h2
      · rw [Nat.testBit_lt_two_pow (Nat.lt_of_lt_of_le ha (Nat.pow_le_pow_right (by decide) h2))] at hi; cases hi
    simpa [hi32] using h1
  · intro h
    apply Nat.eq_of_testBit_eq
    intro i
    rw [Nat.testBit_and, hb, Nat.zero_testBit]
    cases hi : a.testBit i with
    | false => rfl
    | true => rw [h i hi]; simp
end Go.Proofs.Ytpgbedaonjfpnaa
