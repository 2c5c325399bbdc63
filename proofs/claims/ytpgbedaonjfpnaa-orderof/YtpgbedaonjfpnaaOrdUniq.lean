/- Orders as plain data: the relation of an order has that order alone. -/
import Derived.Test.YtpgbedaonjfpnaaOrderAllW
namespace Go.Proofs.Ytpgbedaonjfpnaa

theorem ahead2_iff : ∀ {x : List Nat} {i k : Nat}, ahead2 x i k = true ↔ Ahead x i k
  | [], i, k => by simp [ahead2, Ahead]
  | a :: t, i, k => by
    simp only [ahead2, Bool.or_eq_true, Bool.and_eq_true, beq_iff_eq, List.contains_iff_mem]
    constructor
    · rintro (⟨rfl, h⟩ | h)
      · obtain ⟨l1, l2, rfl⟩ := List.append_of_mem h
        exact ⟨a :: l1, l2, rfl, by simp⟩
      · obtain ⟨l1, l2, rfl, hi⟩ := ahead2_iff.1 h
        exact ⟨a :: l1, l2, rfl, by simp [hi]⟩
    · rintro ⟨l1, l2, e, hi⟩
      cases l1 with
      | nil => simp at hi
      | cons b l1 =>
        simp only [List.cons_append, List.cons.injEq] at e
        obtain ⟨rfl, rfl⟩ := e
        rcases List.mem_cons.1 hi with rfl | hi
        · exact .inl ⟨rfl, by simp⟩
        · exact .inr (ahead2_iff.2 ⟨l1, l2, rfl, hi⟩)
theorem ahead2_within {n : Nat} {x : List Nat} (h : ∀ a ∈ x, a < n) : Within n (ahead2 x) := fun i k hk => by
  obtain ⟨l1, l2, e, hi⟩ := ahead2_iff.1 hk
  exact ⟨h i (by rw [e]; simp [hi]), h k (by rw [e]; simp)⟩
theorem fit_of {n : Nat} {x : List Nat} (h : Fit n noF x) : Fit n (ahead2 x) x :=
  ⟨h.len, fun l1 k l2 e => ⟨(h.on l1 k l2 e).1, (h.on l1 k l2 e).2.1, fun i _ hf => by
    obtain ⟨m1, m2, e2, hi⟩ := ahead2_iff.1 hf
    have := split_same (by rw [← e]; exact h.nodup) (e.symm.trans e2)
    rw [this]; exact hi⟩⟩
theorem flat_one {α : Type} {a n : Nat} (h : a < n) (z : List α) (g : Nat → List α) (hg : ∀ k, k < n → g k = if k = a then z else []) : (List.range n).flatMap g = z := by
  induction n with
  | zero => omega
  | succ n ih =>
    rw [List.range_succ, List.flatMap_append]
    by_cases e : a = n
    · subst e
      have h0 : (List.range a).flatMap g = [] := by
        rw [List.flatMap_eq_nil_iff]
        intro k hk
        have hk' : k < a := by simpa using hk
        rw [hg k (by omega), if_neg (by omega)]
      rw [h0]
      simp [hg a (by omega)]
    · rw [ih (by omega) (fun k hk => hg k (by omega))]
      simp [hg n (by omega), show ¬ n = a from fun h => e h.symm]
theorem ext_one {n : Nat} {x : List Nat} (h : Fit n noF x) : ∀ (r l : List Nat), x = l ++ r → extF n (ahead2 x) r.length l = [x]
  | [], l, e => by simp [extF, e]
  | a :: r, l, e => by
    have ha := h.on l a r e
    have hstep : ∀ k, k < n → stands n (ahead2 x) l k = decide (k = a) := fun k hk => by
      rw [Bool.eq_iff_iff, stands_iff, decide_eq_true_eq]
      constructor
      · rintro ⟨h1, h2⟩
        have hkx := h.mem hk
        rw [e, List.mem_append, List.mem_cons] at hkx
        rcases hkx with h3 | h3 | h3
        · exact absurd h3 h1
        · exact h3
        · obtain ⟨s1, s2, e2⟩ := List.append_of_mem h3
          exact absurd (h2 a ha.1 (ahead2_iff.2 ⟨l ++ a :: s1, s2, by rw [e, e2]; simp, by simp⟩)) ha.2.1
      · rintro rfl
        exact (fit_of h).on l k r e |>.2
    show extF n (ahead2 x) (r.length + 1) l = [x]
    simp only [extF]
    refine flat_one ha.1 _ _ fun k hk => ?_
    rw [hstep k hk]
    by_cases ek : k = a
    · subst ek
      simp only [decide_true, if_true]
      exact ext_one h r (l ++ [k]) (by rw [e]; simp)
    · simp [ek]
theorem lin_of {n : Nat} {x : List Nat} (h : Fit n noF x) : acyF n (ahead2 x) = true ∧ linF n (ahead2 x) = [x] := by
  have ha := (fit_of h).acy (ahead2_within h.lt)
  refine ⟨ha, ?_⟩
  unfold linF
  rw [ha, if_pos rfl]
  have := ext_one h x [] rfl
  rw [h.len] at this
  exact this
theorem pairs_of {n : Nat} (hn : n ≤ 6) {x : List Nat} (h : x ∈ extF n noF n []) : (pairsF n (ahead2 x)).length = n * (n - 1) / 2 := by
  have : ∀ n ∈ List.range 7, ∀ x ∈ extF n noF n [], (pairsF n (ahead2 x)).length = n * (n - 1) / 2 := by decide +kernel
  exact this n (by simp; omega) x h
end Go.Proofs.Ytpgbedaonjfpnaa
