/- A region that draws its order, whose pure operations (loads, arithmetic) read only what stood when it began, and whose calls and allocations come one behind the other: one walk serves every order. -/
import Derived.Test.YtkiefbldkidobaaDoorKit
import Derived.OrdersHeld
namespace Go.Proofs.YtkiefbldkidobaaDoor
open Go.RowKit

/-- Operations that yield a value and leave the world alone, if they go through. -/
def pureOp (o : Oper) : Bool :=
  match o.op with
  | .move _ | .assign _ | .pick .. | .load .. | .binOp .. | .unOp .. | .convert .. | .fieldAddr .. | .field .. | .indexAddr .. | .index .. | .slice .. | .extract .. | .lookup .. | .build .. | .makeInterface .. | .nilCheck _ => true
  | .call c => match c.callee with
    | .builtin .len => true
    | _ => false
  | _ => false

theorem value_of_bind {α : Type} {P : Program} {s : Sem α} {f : α → Value} {w w' : World} {n : Next} (h : (do let x ← s; pure (Next.value (f x)) : Sem Next).run P w = .ok n w') : ∃ v, n = .value v := by
  simp only [Sem.run_bind] at h
  cases hs : s.run P w with
  | ok x w1 => rw [hs] at h; simp only [Result.andThen_ok, Sem.run_pure, Result.ok.injEq] at h; exact ⟨f x, h.1.symm⟩
  | halt x w1 => rw [hs] at h; simp [Result.andThen] at h

theorem value_of_end {α : Type} {P : Program} {s : Sem α} {k : α → Sem Next} (hk : ∀ x w n w', (k x).run P w = .ok n w' → ∃ v, n = .value v) {w w' : World} {n : Next} (h : (s >>= k).run P w = .ok n w') : ∃ v, n = .value v := by
  simp only [Sem.run_bind] at h
  cases hs : s.run P w with
  | ok x w1 => rw [hs] at h; exact hk _ _ _ _ h
  | halt x w1 => rw [hs] at h; simp [Result.andThen] at h
theorem value_of_pure {P : Program} {v : Value} {w w' : World} {n : Next} (h : (pure (.value v) : Sem Next).run P w = .ok n w') : ∃ v, n = .value v := by
  simp only [Sem.run_pure, Result.ok.injEq] at h
  exact ⟨_, h.1.symm⟩
theorem nil_value {P : Program} {o : Oper} {x : Operand} (ho : o.op = .nilCheck x) {ρ : Operand → Value} {w w' : World} {n : Next} (h : (execOp ρ o).run P w = .ok n w') : ∃ v, n = .value v := by
  unfold execOp at h
  simp only [ho] at h
  split at h
  · simp [runtimePanic, go_sem] at h
  · simp [runtimePanic, go_sem] at h
  · simp [runtimePanic, go_sem] at h
  · split at h
    · simp [runtimePanic, go_sem] at h
    · refine value_of_end (fun _ _ _ _ h => value_of_end (fun _ _ _ _ h => ?_) h) h
      split at h
      · exact value_of_end (fun _ _ _ _ h => value_of_pure h) h
      · exact value_of_pure h
    · simp only [Sem.run_pure, Result.ok.injEq] at h
      exact ⟨_, h.1.symm⟩
  · simp only [Sem.run_pure, Result.ok.injEq] at h
    exact ⟨_, h.1.symm⟩
theorem pure_value {P : Program} {o : Oper} (hp : pureOp o = true) {ρ : Operand → Value} {w w' : World} {n : Next} (h : (execOp ρ o).run P w = .ok n w') : ∃ v, n = .value v := by
  unfold pureOp at hp
  split at hp
  all_goals first
    | (rename_i ho; exact nil_value ho h)
    | skip
  all_goals unfold execOp at h
  all_goals first
    | (rename_i ho; simp only [ho] at h; exact value_of_bind (f := id) h)
    | (rename_i ho; simp only [ho, Sem.run_pure, Result.ok.injEq] at h; exact ⟨_, h.1.symm⟩)
    | (rename_i ho; simp only [ho] at h; exact value_of_bind h)
    | (cases hp; done)
    | skip
  rename_i c ho
  split at hp
  · rename_i hc
    simp only [ho, resolve, hc, invoke, builtin] at h
    rw [Sem.run_bind, Sem.run_pure, Result.andThen_ok] at h
    exact value_of_bind (f := id) h
  · cases hp

/-- The class of worlds that have grown out of w. -/
def ExtC (w : World) : World → Prop := fun w' => ∃ p : Ext w, w' = p.wd

theorem extC_below {w w' : World} (h : Below w.heap.size w w') : ExtC w w' := ⟨⟨w', h⟩, rfl⟩

/-- A pure operation that is quiet in a class yields its value in every world of it. -/
theorem yieldsIf_of_quiet {P : Program} {ops : Array Oper} {C : World → Prop} {o : Oper} {a : Act} {v : Value} (hp : pureOp o = true) (hw : Region.wanted o (yielded ops a.tmps) = true)
    (h : ∀ w, C w → o.quietAt P a C w v) : YieldsIf P ops C o v a := by
  refine .inl ⟨hw, fun w hC => ?_⟩
  have h1 := h w hC
  unfold Oper.quietAt at h1
  cases hr : (execOp a.eval o).run P w with
  | ok n w' =>
    obtain ⟨u, rfl⟩ := pure_value hp hr
    rw [hr] at h1
    obtain ⟨e1, e2⟩ := h1
    rw [e1, e2]
  | halt x w' => rw [hr] at h1; exact h1.elim

/-- The operation at a place of a list. -/
def opAt : List Oper → Nat → Oper
  | [], _ => default
  | o :: _, 0 => o
  | _ :: l, n + 1 => opAt l n

theorem opAt_get {o : Oper} : ∀ {l : List Oper} {i : Nat}, l[i]? = some o → opAt l i = o
  | [], i, h => by simp at h
  | x :: l, 0, h => by simpa [opAt] using h
  | x :: l, i + 1, h => by simpa [opAt] using opAt_get (l := l) (i := i) (by simpa using h)

/-- The order of the walk: pure operations as early as may be, then, alone, a call or an allocation. -/
def segB (ops : Array Oper) : List Nat → Array Bool → (Array Bool → Bool) → Bool
  | [], listed, k => k listed
  | i :: seg, listed, k => (Region.ready .any ops listed).contains i && Region.free .any ops listed i && pureOp (opAt ops.toList i) && segB ops seg (listed.setIfInBounds i true) k
def mixB (ops : Array Oper) : List (List Nat × Nat) → List Nat → Array Bool → Bool
  | [], last, listed => segB ops last listed fun l => (Region.ready .any ops l).isEmpty
  | (seg, i) :: rest, last, listed => segB ops seg listed fun l => Region.ready .any ops l == [i] && mixB ops rest last (l.setIfInBounds i true)
def mixLen : List (List Nat × Nat) → List Nat → Nat
  | [], last => last.length
  | (seg, _) :: rest, last => seg.length + (1 + mixLen rest last)

/-- THE WALK. w0: the world when the region began. -/
def wpMix (P : Program) (ops : Array Oper) (w0 : World) (Q : Exit → Act → World → Prop) : List (List Oper × Oper) → List Oper → Act → World → Prop
  | [], last, a, w => wpQuiet P ops (fun w' => ∃ p : Ext w0, w' = p.wd) (fun a' => Q .normal a' w) last a
  | (seg, o) :: rest, last, a, w => wpQuiet P ops (fun w' => ∃ p : Ext w0, w' = p.wd) (fun a' => wpList P ops (Exit.then (fun a'' w' => Below w0.heap.size w0 w' ∧ wpMix P ops w0 Q rest last a'' w') Q) [o] a' w) seg a

section
variable {P : Program} {ops : Array Oper} {w0 : World} {Q : Exit → Act → World → Prop}

theorem mix_seg (hs : Region.noSelect ops = true) (hQ : ∀ c a d v w, Q (.panic c) (Act.put a d v) w → Q (.panic c) a w) {w : World} (hS : Below w0.heap.size w0 w) {fuel : Nat} {k : Array Bool → Bool} {N : Act → Prop} :
    ∀ (seg : List Nat) (listed : Array Bool) (a : Act), segB ops seg listed k = true → wpQuiet P ops (fun w' => ∃ p : Ext w0, w' = p.wd) N (seg.map (opAt ops.toList)) a →
      (∀ a' listed', k listed' = true → N a' → wpAnyH P .any ops Q (ExtC w0) fuel listed' a' w) → wpAnyH P .any ops Q (ExtC w0) (seg.length + fuel) listed a w
  | [], listed, a, hB, h, hk => by simpa using hk a listed hB h
  | i :: seg, listed, a, hB, h, hk => by
    simp only [segB, Bool.and_eq_true] at hB
    obtain ⟨⟨⟨hr, hf⟩, hp⟩, hB⟩ := hB
    obtain ⟨o, ho⟩ : ∃ o, ops[i]? = some o := by
      unfold Region.free at hf
      split at hf
      · cases hf
      · exact ⟨_, by assumption⟩
    have ho' : opAt ops.toList i = o := opAt_get (by simpa using ho)
    rw [ho'] at hp
    simp only [List.map_cons, wpQuiet, ho'] at h
    have e : (i :: seg).length + fuel = (seg.length + fuel) + 1 := by simp; omega
    rw [e]
    split at h
    · rename_i hw
      obtain ⟨v, h1, h2⟩ := h
      exact wpAnyH_take ho hs hf hr (fun c a w => hQ c a _ _ w) (yieldsIf_of_quiet hp hw h1) (extC_below hS) (mix_seg hs hQ hS seg _ _ hB h2 hk)
    · rename_i hw
      exact wpAnyH_take (v := undef) ho hs hf hr (fun c a w => hQ c a _ _ w) (.inr ⟨by simpa using hw, rfl⟩) (extC_below hS) (mix_seg hs hQ hS seg _ _ hB h hk)

theorem upon_then {o : Oper} {a : Act} {K K' : Act → World → Prop} {w : World} (hK : ∀ a w, K a w → K' a w) (h : o.wp P a w K (Exit.then K Q)) : o.wp P a w K' Q := by
  unfold Oper.wp at *
  generalize (execOp a.eval o).run P w = r at *
  cases r with
  | ok n w' =>
    cases n <;> simp only [Oper.upon] at h ⊢ <;>
      first
        | exact hK _ _ h
        | exact Calls.mono h (fun e w'' he => by cases e <;> first | exact hK _ _ he | exact he)
        | exact Rows.mono h (fun _ _ he => hK _ _ he)
  | halt x w' => cases x <;> simp only [Oper.upon] at h ⊢ <;> exact h

theorem mix_any (hs : Region.noSelect ops = true) (hQ : ∀ c a d v w, Q (.panic c) (Act.put a d v) w → Q (.panic c) a w) :
    ∀ (sch : List (List Nat × Nat)) (last : List Nat) (listed : Array Bool) (a : Act) (w : World), mixB ops sch last listed = true → Below w0.heap.size w0 w →
      wpMix P ops w0 Q (sch.map fun x => (x.1.map (opAt ops.toList), opAt ops.toList x.2)) (last.map (opAt ops.toList)) a w → wpAnyH P .any ops Q (ExtC w0) (mixLen sch last) listed a w
  | [], last, listed, a, w, hB, hS, h => by
    have := mix_seg (P := P) (Q := Q) hs hQ hS (fuel := 0) last listed a hB h (fun a' listed' hk hN => wpAnyH_done (by simpa using hk) hN 0)
    simpa [mixLen] using this
  | (seg, i) :: rest, last, listed, a, w, hB, hS, h => by
    refine mix_seg (P := P) (Q := Q) hs hQ hS (fuel := 1 + mixLen rest last) seg listed a hB h ?_
    intro a' listed' hk hN
    simp only [Bool.and_eq_true, beq_iff_eq] at hk
    obtain ⟨hr, hB'⟩ := hk
    rw [Nat.add_comm 1]
    refine wpAnyH_all hr (by simp) ?_
    intro j hj
    simp only [List.mem_singleton] at hj
    subst hj
    have hmem : j ∈ Region.ready .any ops listed' := by rw [hr]; simp
    obtain ⟨_, o, ho, _⟩ := mem_ready.1 hmem
    have ho' : opAt ops.toList j = o := opAt_get (by simpa using ho)
    simp only [wpList, ho'] at hN
    unfold wpOp
    simp only [ho]
    split
    · rename_i hw
      simp only [hw, if_true] at hN
      rcases hN with hN | ⟨h1, h2⟩
      · refine .inl (upon_then (fun a'' w' hK => ?_) hN)
        exact ⟨extC_below hK.1, mix_any hs hQ rest last _ a'' w' hB' hK.1 hK.2⟩
      · exact .inr ⟨h1, by obtain ⟨b, u, h⟩ := h2; exact ⟨b, u, h⟩⟩
    · rename_i hw
      simp only [hw] at hN
      obtain ⟨h1, h2⟩ := hN
      exact ⟨extC_below h1, mix_any hs hQ rest last _ _ w hB' h1 h2⟩

theorem wpMix_stage {seg : List Oper} {o : Oper} {rest : List (List Oper × Oper)} {last : List Oper} {a : Act} {w : World}
    (h : wpQuiet P ops (fun w' => ∃ p : Ext w0, w' = p.wd) (fun a' => wpList P ops (Exit.then (fun a'' w' => Below w0.heap.size w0 w' ∧ wpMix P ops w0 Q rest last a'' w') Q) [o] a' w) seg a) : wpMix P ops w0 Q ((seg, o) :: rest) last a w := h
theorem wpMix_last {last : List Oper} {a : Act} {w : World} (h : wpQuiet P ops (fun w' => ∃ p : Ext w0, w' = p.wd) (fun a' => Q .normal a' w) last a) : wpMix P ops w0 Q [] last a w := h

/-- THE LAW. -/
theorem wp_region_mix (sch : List (List Nat × Nat)) (last : List Nat) {id : Nat} {a : Act} {w : World} {l : List Oper} (hm : P.follows .mixedOrders = true)
    (hB : (Region.noSelect l.toArray && mixB l.toArray sch last (Array.replicate l.toArray.size false) && decide (mixLen sch last = l.toArray.size)) = true)
    (hQ : ∀ c a d v w, Q (.panic c) (Act.put a d v) w → Q (.panic c) a w)
    (h : wpMix P l.toArray w Q (sch.map fun x => (x.1.map (opAt l), opAt l x.2)) (last.map (opAt l)) a w.drew) : (Code.region id l.toArray true).wp P Q a w := by
  simp only [Bool.and_eq_true, decide_eq_true_eq] at hB
  obtain ⟨⟨hs, hB⟩, hl⟩ := hB
  refine wp_region_held (S := ExtC w) hm ?_
  have := mix_any (P := P) (w0 := w) hs hQ sch last _ a w.drew hB (Below.refl _ _).drew h
  rw [hl] at this
  exact this
end
end Go.Proofs.YtkiefbldkidobaaDoor
