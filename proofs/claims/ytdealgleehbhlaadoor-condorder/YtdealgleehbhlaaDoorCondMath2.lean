/- A list that doesn't fall, each once: what Set makes. No program. -/
import Derived.Test.YtdealgleehbhlaaDoorCondMath
namespace Go.Proofs.YtdealgleehbhlaaDoor

def ddO : Option Out → List Out → List Out
  | _, [] => []
  | none, o :: l => o :: ddO (some o) l
  | some p, o :: l => if cmpO p o ≠ 0 then o :: ddO (some o) l else ddO (some o) l
/-- Not falling. -/
def upO : List Out → Prop
  | [] => True
  | a :: l => (∀ b ∈ l, ¬ cmpO b a < 0) ∧ upO l
theorem up_of : ∀ {l : List Out}, (∀ i j (hj : j < l.length) (_ : i < j), ¬ cmpO l[j] l[i] < 0) → upO l
  | [], _ => trivial
  | a :: l, h => by
    refine ⟨fun b hb => ?_, up_of fun i j hj hij => ?_⟩
    · obtain ⟨j, hj, rfl⟩ := List.getElem_of_mem hb
      exact h 0 (j + 1) (by simpa using hj) (by omega)
    · exact h (i + 1) (j + 1) (by simpa using hj) (by omega)
theorem dd_sub {x : Out} : ∀ {p : Option Out} {l : List Out}, x ∈ ddO p l → x ∈ l
  | _, [], h => by simp [ddO] at h
  | none, o :: l, h => by
    simp only [ddO, List.mem_cons] at h ⊢
    exact h.imp id dd_sub
  | some p, o :: l, h => by
    simp only [ddO] at h
    split at h
    · simp only [List.mem_cons] at h ⊢
      exact h.imp id dd_sub
    · exact List.mem_cons_of_mem _ (dd_sub h)
theorem dd_all {x : Out} : ∀ {p : Option Out} {l : List Out}, x ∈ l → x ∈ ddO p l ∨ p = some x
  | _, [], h => by cases h
  | none, o :: l, h => by
    rcases List.mem_cons.1 h with rfl | h
    · exact .inl (by simp [ddO])
    · rcases dd_all (p := some o) h with h | h
      · exact .inl (by simp [ddO, h])
      · simp only [Option.some.injEq] at h
        subst h
        exact .inl (by simp [ddO])
  | some p, o :: l, h => by
    have key : x ∈ ddO (some o) l ∨ x = o := by
      rcases List.mem_cons.1 h with rfl | h
      · exact .inr rfl
      · rcases dd_all (p := some o) h with h | h
        · exact .inl h
        · simp only [Option.some.injEq] at h; exact .inr h.symm
    by_cases hc : cmpO p o = 0
    · have e := cmpO_eq.1 hc
      subst e
      rcases key with h | rfl
      · exact .inl (by simp [ddO, hc, h])
      · exact .inr rfl
    · rcases key with h | rfl
      · exact .inl (by simp [ddO, hc, h])
      · exact .inl (by simp [ddO, hc])
theorem dd_some : ∀ {p : Out} {l : List Out}, (∀ b ∈ l, ¬ cmpO b p < 0) → upO l → rises (ddO (some p) l) ∧ ∀ b ∈ ddO (some p) l, cmpO p b = -1
  | p, [], _, _ => ⟨trivial, fun b hb => by simp [ddO] at hb⟩
  | p, o :: l, h1, h2 => by
    obtain ⟨i1, i2⟩ := dd_some (p := o) h2.1 h2.2
    have h3 := h1 o (by simp)
    have h4 := cmpO_swap p o
    have h5 := cmpO_range p o
    simp only [ddO]
    by_cases hc : cmpO p o = 0
    · rw [if_neg (by simpa using hc)]
      have e := cmpO_eq.1 hc
      subst e
      exact ⟨i1, i2⟩
    · rw [if_pos hc]
      have h6 : cmpO p o = -1 := by omega
      refine ⟨⟨i2, i1⟩, fun b hb => ?_⟩
      rcases List.mem_cons.1 hb with rfl | hb
      · exact h6
      · exact cmpO_trans h6 (i2 b hb)
theorem dd_rises : ∀ {l : List Out}, upO l → rises (ddO none l)
  | [], _ => trivial
  | o :: l, h => by
    obtain ⟨i1, i2⟩ := dd_some (p := o) h.1 h.2
    exact ⟨i2, i1⟩
theorem dd_set {l os : List Out} (h : upO l) (hm : ∀ x, x ∈ l ↔ x ∈ os) : ddO none l = setO [] os :=
  set_only (dd_rises h) fun x => by
    rw [← hm]
    exact ⟨dd_sub, fun hx => (dd_all (p := none) hx).elim id (fun e => by cases e)⟩
def prevO (l : List Out) (k : Nat) : Option Out := if k = 0 then none else l[k - 1]?
theorem dd_first {l r : List Out} {o : Out} (h : l.drop 0 = o :: r) : ddO (prevO l 0) (l.drop 0) = o :: ddO (prevO l 1) r := by
  have e : l = o :: r := by simpa using h
  subst e
  simp [prevO, ddO]
theorem dd_next {l r : List Out} {o p : Out} {k : Nat} (hp : l[k]? = some p) (h : l.drop (k + 1) = o :: r) : ddO (prevO l (k + 1)) (l.drop (k + 1)) = if cmpO p o ≠ 0 then o :: ddO (prevO l (k + 2)) r else ddO (prevO l (k + 2)) r := by
  have ho : l[k + 1]? = some o := by
    have := congrArg (·[0]?) h
    simpa using this
  have e1 : prevO l (k + 1) = some p := by unfold prevO; rw [if_neg (by omega)]; simpa using hp
  have e2 : prevO l (k + 2) = some o := by unfold prevO; rw [if_neg (by omega)]; simpa using ho
  rw [h, e1, e2]
  rfl
theorem set_len : ∀ {l acc : List Out}, (setO acc l).length ≤ acc.length + l.length
  | [], acc => by simp [setO]
  | o :: l, acc => by
    have h1 := set_len (l := l) (acc := putO o acc)
    have h2 : ∀ {a : List Out}, (putO o a).length ≤ a.length + 1 := by
      intro a
      induction a with
      | nil => simp [putO]
      | cons x a ih =>
        simp only [putO]
        split
        · simp; omega
        · split <;> simp
    have := h2 (a := acc)
    simp only [setO, List.length_cons]
    omega
end Go.Proofs.YtdealgleehbhlaaDoor
