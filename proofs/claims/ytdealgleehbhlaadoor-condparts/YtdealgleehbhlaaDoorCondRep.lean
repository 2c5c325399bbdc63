/- Outcomes and atoms in slices. No program. -/
import Derived.Test.YtdealgleehbhlaaDoorRep
import Derived.Test.YtdealgleehbhlaaDoorCondMath
namespace Go.Proofs.YtdealgleehbhlaaDoor
open Go.RowKit

/-- An outcome: two slices. -/
def OutE : Elem Out where
  size := 2
  pos := by decide
  cs := fun A w x c => ∃ v1 v2, c = [v1, v2] ∧ SlA A (SlE IntE) w v1 x.regs ∧ SlA A IntE w v2 x.mem
  len := fun ⟨_, _, h, _⟩ => by subst h; rfl
  one := fun ⟨v1, v2, h, h1, h2⟩ u hu => by
    subst h
    simp at hu
    rcases hu with rfl | rfl
    · obtain ⟨p, cap, rfl⟩ := h1.len; rfl
    · obtain ⟨p, cap, rfl⟩ := h2.len; rfl
  keep := fun ⟨v1, v2, h, h1, h2⟩ hw => ⟨v1, v2, h, h1.agree hw, h2.agree hw⟩
  mono := fun hAB ⟨v1, v2, h, h1, h2⟩ => ⟨v1, v2, h, h1.mono hAB, h2.mono hAB⟩
  lt := fun ⟨v1, v2, h, h1, h2⟩ => ⟨v1, v2, h, h1.lt, h2.lt⟩
theorem out_at {A : Nat → Prop} {w : World} {p : Option Addr} {n c : Nat} {xs : List Out} (h : SlA A OutE w (.slice p n c) xs) : n = xs.length ∧ ∀ k (hk : k < xs.length), ∃ b o, p = some ⟨b, o, none⟩ ∧ ∃ v1 v2, w.cell? ⟨b, o + k * 2, none⟩ = some v1 ∧ w.cell? ⟨b, o + k * 2 + 1, none⟩ = some v2 ∧ SlA A (SlE IntE) w v1 xs[k].regs ∧ SlA A IntE w v2 xs[k].mem := by
  obtain ⟨h1, h2⟩ := h.at
  refine ⟨h1, fun k hk => ?_⟩
  obtain ⟨b, o, rfl, _, cs, ⟨v1, v2, rfl, h3, h4⟩, h5⟩ := h2 k hk
  exact ⟨b, o, rfl, v1, v2, h5 0 v1 rfl, h5 1 v2 rfl, h3, h4⟩

/-- An atom: three numbers and a bool. -/
def Atm.cells (x : Atm) : List Value := [.int .i64 x.thr, .int .i64 x.pos, .int .i64 x.val, .bool x.neg]
def Atm.v (x : Atm) : Value := .agg #[.int .i64 x.thr, .int .i64 x.pos, .int .i64 x.val, .bool x.neg]
def AtmE : Elem Atm where
  size := 4
  pos := by decide
  cs := fun _ _ x c => c = x.cells
  len := fun h => by subst h; rfl
  one := fun h u hu => by subst h; simp [Atm.cells] at hu; rcases hu with rfl | rfl | rfl | rfl <;> rfl
  keep := fun h _ => h
  mono := fun _ h => h
  lt := fun h => h
theorem atm_at {A : Nat → Prop} {w : World} {p : Option Addr} {n c : Nat} {xs : List Atm} (h : SlA A AtmE w (.slice p n c) xs) : n = xs.length ∧ ∀ k (hk : k < xs.length), ∃ b o, p = some ⟨b, o, none⟩ ∧ w.cell? ⟨b, o + k * 4, none⟩ = some (.int .i64 xs[k].thr) ∧ w.cell? ⟨b, o + k * 4 + 1, none⟩ = some (.int .i64 xs[k].pos) ∧ w.cell? ⟨b, o + k * 4 + 2, none⟩ = some (.int .i64 xs[k].val) ∧ w.cell? ⟨b, o + k * 4 + 3, none⟩ = some (.bool xs[k].neg) := by
  obtain ⟨h1, h2⟩ := h.at
  refine ⟨h1, fun k hk => ?_⟩
  obtain ⟨b, o, rfl, _, cs, h3, h4⟩ := h2 k hk
  have e : cs = xs[k].cells := h3
  subst e
  exact ⟨b, o, rfl, h4 0 _ rfl, h4 1 _ rfl, h4 2 _ rfl, h4 3 _ rfl⟩

/-- What is left of two lists to compare, behind k of both. -/
theorem cmpL_drop {a b : List Int} {k : Nat} (ha : k < a.length) (hb : k < b.length) : cmpL (a.drop k) (b.drop k) = if a[k] < b[k] then -1 else if b[k] < a[k] then 1 else cmpL (a.drop (k + 1)) (b.drop (k + 1)) := by
  rw [drop_at ha, drop_at hb, cmpL]
theorem cmpL_ends {a b : List Int} {k : Nat} (h : a.length ≤ k ∨ b.length ≤ k) (hk : k ≤ a.length ∧ k ≤ b.length) : cmpL (a.drop k) (b.drop k) = if a.length < b.length then -1 else if b.length < a.length then 1 else 0 := by
  rcases Nat.lt_trichotomy a.length b.length with h1 | h1 | h1
  · rw [if_pos h1, List.drop_of_length_le (show a.length ≤ k by omega), drop_at (show k < b.length by omega)]
    rfl
  · rw [if_neg (by omega), if_neg (by omega), List.drop_of_length_le (show a.length ≤ k by omega), List.drop_of_length_le (show b.length ≤ k by omega)]
    rfl
  · rw [if_neg (by omega), if_pos h1, drop_at (show k < a.length by omega), List.drop_of_length_le (show b.length ≤ k by omega)]
    rfl
theorem cmpR_drop {a b : List (List Int)} {k : Nat} (ha : k < a.length) (hb : k < b.length) : cmpR (a.drop k) (b.drop k) = if cmpL a[k] b[k] ≠ 0 then cmpL a[k] b[k] else cmpR (a.drop (k + 1)) (b.drop (k + 1)) := by
  rw [drop_at ha, drop_at hb, cmpR]
theorem cmpR_ends {a b : List (List Int)} {k : Nat} (h : a.length ≤ k ∨ b.length ≤ k) (hk : k ≤ a.length ∧ k ≤ b.length) : cmpR (a.drop k) (b.drop k) = if a.length < b.length then -1 else if b.length < a.length then 1 else 0 := by
  rcases Nat.lt_trichotomy a.length b.length with h1 | h1 | h1
  · rw [if_pos h1, List.drop_of_length_le (show a.length ≤ k by omega), drop_at (show k < b.length by omega)]
    rfl
  · rw [if_neg (by omega), if_neg (by omega), List.drop_of_length_le (show a.length ≤ k by omega), List.drop_of_length_le (show b.length ≤ k by omega)]
    rfl
  · rw [if_neg (by omega), if_pos h1, drop_at (show k < a.length by omega), List.drop_of_length_le (show b.length ≤ k by omega)]
    rfl
end Go.Proofs.YtdealgleehbhlaaDoor
