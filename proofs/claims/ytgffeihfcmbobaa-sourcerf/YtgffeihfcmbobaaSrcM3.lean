/- Layer 11: from how many writes a read reads. -/
import Derived.Test.YtgffeihfcmbobaaSrcM2
import Derived.Test.YtgffeihfcmbobaaRelP
namespace Go.Proofs.Ytgffeihfcmbobaa

def cntN (ps : List (Nat × Nat)) (k : Nat) : Nat := (ps.filter fun p => p.2 == k).length
theorem cntN_next {ps : List (Nat × Nat)} {j : Nat} {p : Nat × Nat} (h : ps[j]? = some p) (k : Nat) : cntN (ps.take (j + 1)) k = cntN (ps.take j) k + if p.2 == k then 1 else 0 := by
  unfold cntN
  rw [List.take_add_one, h, Option.toList_some, List.filter_append, List.length_append]
  congr 1
  by_cases hp : (p.2 == k) = true
  · rw [if_pos hp]; simp only [List.filter, hp]; rfl
  · rw [if_neg hp]; simp only [List.filter, Bool.not_eq_true] at hp ⊢; rw [hp]; rfl
theorem cntN_le (ps : List (Nat × Nat)) (j k : Nat) : cntN (ps.take j) k ≤ ps.length := by
  unfold cntN
  exact Nat.le_trans (List.length_filter_le _ _) (by rw [List.length_take]; exact Nat.min_le_right _ _)
theorem one_of {α : Type} {l : List α} {a : α} (hn : l.Nodup) (h : ∀ x ∈ l, x = a) (ha : a ∈ l) : l.length = 1 := by
  match l, hn, h, ha with
  | [x], _, _, _ => rfl
  | x :: y :: l, hn, h, _ =>
    have h1 := h x List.mem_cons_self
    have h2 := h y (List.mem_cons_of_mem _ List.mem_cons_self)
    rw [List.nodup_cons] at hn
    exact absurd (by rw [h1, ← h2]; exact List.mem_cons_self) hn.1
theorem cnt_rf {n : Nat} {w : List Int} {k : Nat} {z : Int} (hk : k < n) (hz : w[k]? = some z) : cntN (pairsF n (rfF n w)) k = if 0 ≤ z ∧ z < (n : Int) then 1 else 0 := by
  have hm : ∀ i j, (i, j) ∈ (pairsF n (rfF n w)).filter (fun p => p.2 == k) ↔ j = k ∧ i < n ∧ z = (i : Int) := by
    intro i j
    rw [List.mem_filter, pairs_mem]
    unfold rfF
    simp only [Bool.and_eq_true, decide_eq_true_eq, beq_iff_eq]
    constructor
    · rintro ⟨⟨h1, h2, h3, h4, h5⟩, rfl⟩
      rw [hz] at h5
      exact ⟨rfl, h1, by simpa using h5⟩
    · rintro ⟨rfl, h1, rfl⟩
      exact ⟨⟨h1, hk, hk, h1, hz⟩, rfl⟩
  unfold cntN
  split
  · rename_i h
    obtain ⟨i, rfl⟩ : ∃ i : Nat, z = (i : Int) := ⟨z.toNat, by omega⟩
    refine one_of (a := (i, k)) ((pairs_nodup n _).sublist List.filter_sublist) (fun x hx => ?_) ((hm i k).2 ⟨rfl, by omega, rfl⟩)
    obtain ⟨a, b⟩ := x
    obtain ⟨h1, _, h3⟩ := (hm a b).1 hx
    rw [h1, show a = i by omega]
  · rename_i h
    rw [List.length_eq_zero_iff, List.eq_nil_iff_forall_not_mem]
    rintro ⟨a, b⟩ hx
    obtain ⟨_, h2, h3⟩ := (hm a b).1 hx
    exact h ⟨by omega, by omega⟩
/-- How often each event of a way reads. -/
theorem cnt_way {l : List Ev} {init w : List Int} (h : w ∈ srcZ l init) {k : Nat} {y : Ev} (hy : l[k]? = some y) : ∃ z, w[k]? = some z ∧ cntN (pairsF l.length (rfF l.length w)) k ≤ 1 ∧ (y.kd = 1 → (cntN (pairsF l.length (rfF l.length w)) k = 0 ↔ z = -1)) ∧ (y.kd ≠ 1 → cntN (pairsF l.length (rfF l.length w)) k = 0 ∧ z = -2) := by
  have hk : k < l.length := by
    rcases Nat.lt_or_ge k l.length with h | h
    · exact h
    · rw [List.getElem?_eq_none h] at hy; cases hy
  obtain ⟨z, hz, hc⟩ := way_at h hy
  refine ⟨z, hz, ?_⟩
  rw [cnt_rf hk hz]
  rcases hc with ⟨h1, h2 | ⟨i, hi, h2⟩⟩ | ⟨h1, h2⟩
  · rw [if_neg (by omega)]
    exact ⟨by omega, fun _ => ⟨fun _ => h2, fun _ => rfl⟩, fun h => absurd h1 h⟩
  · rw [if_pos (by omega)]
    exact ⟨Nat.le_refl _, fun _ => ⟨fun h => by omega, fun h => by omega⟩, fun h => absurd h1 h⟩
  · rw [if_neg (by omega)]
    exact ⟨by omega, fun h => absurd h h1, fun _ => ⟨rfl, h2⟩⟩
end Go.Proofs.Ytgffeihfcmbobaa
