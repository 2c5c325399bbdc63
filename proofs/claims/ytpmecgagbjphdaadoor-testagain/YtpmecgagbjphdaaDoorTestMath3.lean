/- What follows, plainly: bare and fenced threads have the same loads and stores; bare ones have no barrier, fenced ones one ahead of each. -/
import Derived.Test.YtpmecgagbjphdaaDoorTestMath2
namespace Go.Proofs.YtpmecgagbjphdaaDoor

def accL : List Ins → List Ins
  | [] => []
  | x :: xs => if kindZ x.op = 0 then accL xs else x :: accL xs
theorem accL_append (a b : List Ins) : accL (a ++ b) = accL a ++ accL b := by
  induction a with
  | nil => rfl
  | cons x xs ih => simp only [List.cons_append, accL]; split <;> simp [ih]
theorem accL_len (l : List Ins) : (accL l).length ≤ l.length := by
  induction l with
  | nil => simp [accL]
  | cons x xs ih => simp only [accL]; split <;> simp <;> omega
theorem fn_kind {op : Int} (h : fnB op = true) : kindZ op = 0 := by
  unfold fnB at h
  simp only [Bool.or_eq_true, beq_iff_eq] at h
  rcases h with h | h <;> subst h <;> decide
theorem skip_mem {x : Ins} {n : Int} (h : kindZ x.op ≠ 0) : skipZ x n = x := by unfold skipZ; rw [(kind_fn h).2]; rfl
theorem acc_bare (l : List Ins) : accL (bareL l) = accL l := by
  unfold bareL
  induction l with
  | nil => rfl
  | cons x xs ih =>
    rw [relay, accL_append, ih]
    simp only [accL]
    unfold lay0
    rw [skip_op]
    cases hf : fnB x.op
    · simp only [cond_false, accL, skip_op]
      split
      · rfl
      · rename_i hk; rw [skip_mem hk]; rfl
    · rw [if_pos (fn_kind hf)]; rfl
theorem acc_lay1 (l : List Ins) : accL (relay lay1 l) = accL l := by
  induction l with
  | nil => rfl
  | cons x xs ih =>
    rw [relay, accL_append, ih]
    simp only [accL]
    unfold lay1
    rw [skip_op]
    split
    · rename_i hk; simp [accL, skip_op, hk]
    · rename_i hk; rw [skip_mem hk]; simp [accL, hk, dmb, show kindZ 11 = 0 by decide]
theorem acc_fenced (l : List Ins) : accL (fencedL l) = accL l := by unfold fencedL; rw [acc_lay1, acc_bare]
theorem bare_nofence (l : List Ins) : ∀ x ∈ bareL l, fnB x.op = false := by
  unfold bareL
  induction l with
  | nil => intro x hx; cases hx
  | cons y ys ih =>
    intro x hx
    rw [relay] at hx
    rcases List.mem_append.1 hx with hx | hx
    · unfold lay0 at hx
      rw [skip_op] at hx
      cases hf : fnB y.op
      · rw [hf] at hx; simp at hx; rw [hx, skip_op]; exact hf
      · rw [hf] at hx; cases hx
    · exact ih x hx
/-- Each load and store has a dmb ahead. -/
def ahead : Option Int → List Ins → Bool
  | _, [] => true
  | p, x :: xs => (kindZ x.op == 0 || p == some 11) && ahead (some x.op) xs
theorem ahead_any {l : List Ins} : ∀ {p : Option Int}, ahead none l = true → ahead p l = true := by
  intro p h
  cases l with
  | nil => rfl
  | cons x xs =>
    simp only [ahead, Bool.and_eq_true, Bool.or_eq_true, beq_iff_eq] at *
    exact ⟨.inl (by rcases h.1 with h | h; exact h; cases h), h.2⟩
theorem ahead_lay1 (l : List Ins) : ∀ p : Option Int, ahead p (relay lay1 l) = true := by
  induction l with
  | nil => intro p; rfl
  | cons x xs ih =>
    intro p
    rw [relay]
    by_cases hk : kindZ x.op = 0
    · rw [show lay1 (skipZ x (laid lay1 (xs.take x.i.toNat))) = [skipZ x (laid lay1 (xs.take x.i.toNat))] by unfold lay1; rw [skip_op, if_pos hk]]
      simp only [List.cons_append, List.nil_append, ahead, skip_op]; rw [ih]; simp [hk]
    · rw [show lay1 (skipZ x (laid lay1 (xs.take x.i.toNat))) = [dmb, skipZ x (laid lay1 (xs.take x.i.toNat))] by unfold lay1; rw [skip_op, if_neg hk]]
      simp only [List.cons_append, List.nil_append, ahead, skip_op]; rw [ih]; simp [dmb, show kindZ 11 = 0 by decide]
theorem ahead_at {l : List Ins} : ∀ {p : Option Int}, ahead p l = true → ∀ k (hk : k < l.length), kindZ l[k].op ≠ 0 → (k = 0 ∧ p = some 11) ∨ ∃ h : 0 < k, (l[k - 1]'(by omega)).op = 11 := by
  induction l with
  | nil => intro p _ k hk; simp at hk
  | cons x xs ih =>
    intro p h k hk hkk
    simp only [ahead, Bool.and_eq_true, Bool.or_eq_true, beq_iff_eq] at h
    cases k with
    | zero => left; refine ⟨rfl, ?_⟩; rcases h.1 with h0 | h0; exact absurd h0 hkk; exact h0
    | succ k =>
      right
      refine ⟨by omega, ?_⟩
      rcases ih h.2 k (by simpa using hk) (by simpa using hkk) with ⟨h1, h2⟩ | ⟨h1, h2⟩
      · subst h1; simpa using h2
      · obtain ⟨m, rfl⟩ : ∃ m, k = m + 1 := ⟨k - 1, by omega⟩
        simpa using h2
theorem fenced_ahead {l : List Ins} {k : Nat} (hk : k < (fencedL l).length) (h : kindZ ((fencedL l)[k]).op ≠ 0) : ∃ h : 0 < k, ((fencedL l)[k - 1]'(by omega)).op = 11 := by
  rcases ahead_at (ahead_lay1 (bareL l) none) k hk h with ⟨_, h2⟩ | h2
  · cases h2
  · exact h2
end Go.Proofs.YtpmecgagbjphdaaDoor
