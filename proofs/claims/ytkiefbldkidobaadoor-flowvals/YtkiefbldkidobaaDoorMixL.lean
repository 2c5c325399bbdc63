/- A region that draws its order and, late in it, writes to what stood (x.f = append(x.f, g(..))): pure operations read only what stood when it began, as long as no late operation has come up; one walk serves every order. -/
import Derived.Test.YtkiefbldkidobaaDoorMix
namespace Go.Proofs.YtkiefbldkidobaaDoor
open Go.RowKit

section
variable {P : Program} {ops : Array Oper} {Q : Exit → Act → World → Prop} {md : Region.Mode} {S : World → Prop} {late : Nat → Bool}

/-- What is known of the world: S, as long as no late operation has come up. -/
def SL (late : Nat → Bool) (S : World → Prop) (listed : Array Bool) (w : World) : Prop := (∃ j, late j = true ∧ listed.getD j false = true) ∨ S w

def wpAnyL (P : Program) (md : Region.Mode) (ops : Array Oper) (Q : Exit → Act → World → Prop) (late : Nat → Bool) (S : World → Prop) : Nat → Array Bool → Act → World → Prop
  | 0, listed, a, w => Region.ready md ops listed = [] ∧ Q .normal a w
  | fuel + 1, listed, a, w =>
    (Region.ready md ops listed = [] → Q .normal a w) ∧
    ∀ i ∈ Region.ready md ops listed, wpOp P ops Q i (fun a' w' => SL late S (listed.setIfInBounds i true) w' ∧ wpAnyL P md ops Q late S fuel (listed.setIfInBounds i true) a' w') a w

theorem wpAny_of_late : ∀ (fuel : Nat) (listed : Array Bool) (a : Act) (w : World), wpAnyL P md ops Q late S fuel listed a w → wpAny P md ops Q fuel listed a w
  | 0, _, _, _, h => h
  | fuel + 1, _, _, _, h => ⟨h.1, fun i hi => wpOp_mono (fun a' w' h' => wpAny_of_late fuel _ a' w' h'.2) (h.2 i hi)⟩

theorem SL_swap {i j : Nat} {listed : Array Bool} {w : World} (hi : late i = false) (h : SL late S ((listed.setIfInBounds i true).setIfInBounds j true) w) : SL late S (listed.setIfInBounds j true) w := by
  rcases h with ⟨k, hk, hl⟩ | h
  · refine .inl ⟨k, hk, ?_⟩
    have hki : k ≠ i := fun e => by subst e; rw [hi] at hk; cases hk
    by_cases hij : i = j
    · subst hij
      rw [Array.setIfInBounds_setIfInBounds] at hl
      exact hl
    · rw [Array.setIfInBounds_comm _ _ hij, getD_set_ne false (Ne.symm hki)] at hl
      exact hl
  · exact .inr h

/-- An operation that may come up now may be taken first. -/
theorem wpAnyL_first {C : World → Prop} {Inv : Array Bool → Prop} {i : Nat} {oi : Oper} {v : Value} (hi : ops[i]? = some oi) (hli : late i = false) (hsel : ∀ (j : Nat) (o : Oper) cs b, ops[j]? = some o → o.op ≠ .select cs b)
    (hQ : ∀ c a w, Q (.panic c) (a.put oi.dst v) w → Q (.panic c) a w)
    (hInv : ∀ L j, Inv L → j ∈ Region.ready md ops L → j ≠ i → Inv (L.setIfInBounds j true)) (hC : ∀ L w, Inv L → SL late S L w → C w) :
    ∀ (fuel : Nat) (listed : Array Bool) (a : Act) (w : World), Inv listed →
      (∀ j oj, ops[j]? = some oj → j ≠ i → listed.getD j true = false → (∀ e ∈ oj.after, Region.binds md e = true → e.on ≠ i) → oi.apart ops oj = true) →
      i ∈ Region.ready md ops listed → YieldsIf P ops C oi v a → SL late S listed w →
      wpAnyL P md ops Q late S fuel (listed.setIfInBounds i true) (a.put oi.dst v) w → wpAnyL P md ops Q late S (fuel + 1) listed a w := by
  have mono : ∀ {L : Array Bool} {w : World}, SL late S L w → SL late S (L.setIfInBounds i true) w := fun h => by
    rcases h with ⟨k, hk, hl⟩ | h
    · exact .inl ⟨k, hk, getD_set_true hl⟩
    · exact .inr h
  intro fuel
  induction fuel with
  | zero =>
    intro listed a w hV _ hr hy hS H
    refine ⟨fun h => (by rw [h] at hr; cases hr), fun j hj => ?_⟩
    by_cases hji : j = i
    · subst hji; exact hy.wpOp hi (hC _ _ hV hS) ⟨mono hS, H⟩
    · have := ready_mono hj hji
      rw [H.1] at this
      cases this
  | succ fuel ih =>
    intro listed a w hV hfree hr hy hS H
    refine ⟨fun h => (by rw [h] at hr; cases hr), fun j hj => ?_⟩
    by_cases hji : j = i
    · subst hji; exact hy.wpOp hi (hC _ _ hV hS) ⟨mono hS, H⟩
    · have h1 := H.2 j (ready_mono hj hji)
      obtain ⟨hjun, oj, hoj, hall⟩ := mem_ready.1 hj
      have hnot : ∀ e ∈ oj.after, Region.binds md e = true → e.on ≠ i := fun e he hb heq => by
        have h1 := hall e he hb
        have h0 := (mem_ready.1 hr).1
        rw [heq] at h1
        rcases Nat.lt_or_ge i listed.size with h' | h'
        · simp [h'] at h0 h1; rw [h0] at h1; cases h1
        · simp [Array.getElem?_eq_none h'] at h1
      have h2 := wpOp_putIf hoj (hfree j oj hoj hji hjun hnot) (fun cs b => hsel i oi cs b hi) (fun cs b => hsel j oj cs b hoj) hQ hy h1
      have hfree' : ∀ k ok, ops[k]? = some ok → k ≠ i → (listed.setIfInBounds j true).getD k true = false →
          (∀ e ∈ ok.after, Region.binds md e = true → e.on ≠ i) → oi.apart ops ok = true := fun k ok hk hki hun hno => by
        refine hfree k ok hk hki ?_ hno
        by_cases hjk : j = k
        · subst hjk; exact hjun
        · rw [getD_set_ne true hjk] at hun; exact hun
      refine wpOp_mono (fun a' w' h3 => ?_) h2
      have hS' := SL_swap hli h3.2.1
      refine ⟨hS', ih (listed.setIfInBounds j true) a' w' (hInv _ _ hV hj hji) hfree' (ready_mono hr (Ne.symm hji)) h3.1 hS' ?_⟩
      rw [Array.setIfInBounds_comm _ _ hji]
      exact h3.2.2

/-- Whom i has to wait ahead of: all that hangs on it. -/
def depStep (ops : Array Oper) (u : List Bool) : List Bool :=
  (List.range ops.size).map fun j => u.getD j false || match ops[j]? with
    | some o => o.after.any fun e => Region.binds .any e && u.getD e.on false
    | none => false
def depOn (ops : Array Oper) (i : Nat) : Nat → List Bool
  | 0 => (List.range ops.size).map (· == i)
  | n + 1 => depStep ops (depOn ops i n)
/-- All late operations hang on i, and nothing that hangs on it has come up. -/
def lateB (ops : Array Oper) (ls : List Nat) (listed : Array Bool) (i : Nat) : Bool :=
  let u := depOn ops i ops.size
  ls.all (fun j => u.getD j false) && (List.range ops.size).all (fun k => !u.getD k false || !listed.getD k false) &&
    (List.range ops.size).all (fun j => !u.getD j false || j == i || match ops[j]? with
      | some o => o.after.any fun e => Region.binds .any e && u.getD e.on false
      | none => false)

theorem depOn_len (ops : Array Oper) (i n : Nat) : (depOn ops i n).length = ops.size := by cases n <;> simp [depOn, depStep]

theorem late_inv {ls : List Nat} {listed : Array Bool} {i : Nat} (h : lateB ops ls listed i = true) :
    ∃ Inv : Array Bool → Prop, Inv listed ∧ (∀ L j, Inv L → j ∈ Region.ready .any ops L → j ≠ i → Inv (L.setIfInBounds j true)) ∧ ∀ L w, Inv L → SL (fun j => ls.contains j) S L w → S w := by
  simp only [lateB, Bool.and_eq_true, List.all_eq_true, List.mem_range] at h
  obtain ⟨⟨h1, h2⟩, h3⟩ := h
  have hul := depOn_len ops i ops.size
  generalize depOn ops i ops.size = u at h1 h2 h3 hul
  have small : ∀ k, u.getD k false = true → k < ops.size := fun k hk => by
    rcases Nat.lt_or_ge k ops.size with h | h
    · exact h
    · rw [List.getD_eq_getElem?_getD, List.getElem?_eq_none (by omega)] at hk; cases hk
  refine ⟨fun L => ∀ k, u.getD k false = true → L.getD k false = false, ?_, ?_, ?_⟩
  · intro k hu
    have := h2 k (small k hu)
    rw [hu] at this
    simpa using this
  · intro L j hL hj hji k hu
    obtain ⟨_, o, ho, hall⟩ := mem_ready.1 hj
    by_cases hjk : j = k
    · subst hjk
      have := h3 j (small j hu)
      rw [hu, ho] at this
      simp only [Bool.not_true, Bool.false_or, Bool.or_eq_true, beq_iff_eq, hji, false_or, Array.any_eq_true'] at this
      obtain ⟨e, he, hb⟩ := this
      simp only [Bool.and_eq_true] at hb
      have h5 := hall e he hb.1
      rw [hL _ hb.2] at h5
      cases h5
    · rw [getD_set_ne false hjk]
      exact hL k hu
  · intro L w hL hs
    rcases hs with ⟨j, hj, hl⟩ | hs
    · have hj' : j ∈ ls := by simpa using hj
      rw [hL j (h1 j hj')] at hl
      cases hl
    · exact hs

/-- Operations that read no memory. -/
def stillOp (o : Oper) : Bool :=
  match o.op with
  | .move _ | .assign _ => true
  | _ => false
theorem yieldsIf_still {C C' : World → Prop} {o : Oper} {a : Act} {v : Value} {w0 : World} (hs : stillOp o = true) (hw : Region.wanted o (yielded ops a.tmps) = true) (h : o.quietAt P a C w0 v) : YieldsIf P ops C' o v a := by
  refine .inl ⟨hw, fun w _ => ?_⟩
  unfold Oper.quietAt at h
  unfold stillOp at hs
  unfold execOp at h ⊢
  split at hs
  · rename_i ho
    simp only [ho, Sem.run_pure] at h ⊢
    have e1 : a.eval _ = v := h.2
    rw [e1]
  · rename_i ho
    simp only [ho, Sem.run_pure] at h ⊢
    have e1 : a.eval _ = v := h.2
    rw [e1]
  · cases hs
/-- The order of the walk. 'ph': a late operation has come up. -/
def segLB (ops : Array Oper) (ls : List Nat) (ph : Bool) : List Nat → Array Bool → (Array Bool → Bool) → Bool
  | [], listed, k => k listed
  | i :: seg, listed, k => (Region.ready .any ops listed).contains i && Region.free .any ops listed i && pureOp (opAt ops.toList i) && !ls.contains i && (ph || (lateB ops ls listed i || stillOp (opAt ops.toList i))) && segLB ops ls ph seg (listed.setIfInBounds i true) k
def mixLB (ops : Array Oper) (ls : List Nat) : Bool → List (List Nat × Nat × Bool) → List Nat → Array Bool → Bool
  | ph, [], last, listed => segLB ops ls ph last listed fun l => (Region.ready .any ops l).isEmpty
  | ph, (seg, i, ph') :: rest, last, listed => segLB ops ls ph seg listed fun l => Region.ready .any ops l == [i] && (ph' == (ph || ls.contains i)) && mixLB ops ls ph' rest last (l.setIfInBounds i true)
def mixLLen : List (List Nat × Nat × Bool) → List Nat → Nat
  | [], last => last.length
  | (seg, _, _) :: rest, last => seg.length + (1 + mixLLen rest last)

/-- Any world. -/
structure AnyW where
  wd : World
theorem anyW_some : Nonempty AnyW := ⟨⟨default⟩⟩

/-- Worlds in which pure operations are asked: those that have grown out of w0; all, once a late operation has come up. -/
def CL (w0 : World) : Bool → World → Prop
  | false, w' => ∃ p : Ext w0, w' = p.wd
  | true, w' => ∃ p : AnyW, w' = p.wd
/-- THE WALK. -/
def wpMixL (P : Program) (ops : Array Oper) (w0 : World) (Q : Exit → Act → World → Prop) : Bool → List (List Oper × Oper × Bool) → List Oper → Act → World → Prop
  | ph, [], last, a, w => wpQuiet P ops (CL w0 ph) (fun a' => Q .normal a' w) last a
  | ph, (seg, o, ph') :: rest, last, a, w => wpQuiet P ops (CL w0 ph) (fun a' => wpList P ops (Exit.then (fun a'' w' => (ph' = true ∨ Below w0.heap.size w0 w') ∧ wpMixL P ops w0 Q ph' rest last a'' w') Q) [o] a' w) seg a

theorem wpMixL_stage {w0 : World} {seg : List Oper} {o : Oper} {rest : List (List Oper × Oper × Bool)} {last : List Oper} {a : Act} {w : World} {ph' : Bool}
    (h : wpQuiet P ops (fun w' => ∃ p : Ext w0, w' = p.wd) (fun a' => wpList P ops (Exit.then (fun a'' w' => (ph' = true ∨ Below w0.heap.size w0 w') ∧ wpMixL P ops w0 Q ph' rest last a'' w') Q) [o] a' w) seg a) : wpMixL P ops w0 Q false ((seg, o, ph') :: rest) last a w := h
theorem wpMixL_stage_late {w0 : World} {seg : List Oper} {o : Oper} {rest : List (List Oper × Oper × Bool)} {last : List Oper} {a : Act} {w : World} {ph' : Bool}
    (h : wpQuiet P ops (fun w' => ∃ p : AnyW, w' = p.wd) (fun a' => wpList P ops (Exit.then (fun a'' w' => (ph' = true ∨ Below w0.heap.size w0 w') ∧ wpMixL P ops w0 Q ph' rest last a'' w') Q) [o] a' w) seg a) : wpMixL P ops w0 Q true ((seg, o, ph') :: rest) last a w := h
theorem wpMixL_last {w0 : World} {last : List Oper} {a : Act} {w : World} (h : wpQuiet P ops (fun w' => ∃ p : AnyW, w' = p.wd) (fun a' => Q .normal a' w) last a) : wpMixL P ops w0 Q true [] last a w := h

theorem CL_of {w0 w : World} {ls : List Nat} {listed : Array Bool} : SL (fun j => ls.contains j) (ExtC w0) listed w → ∀ ph, ph = true ∨ (∀ j, ls.contains j = true → listed.getD j false = false) → CL w0 ph w := by
  intro h ph hp
  cases ph with
  | true => exact ⟨⟨w⟩, rfl⟩
  | false =>
    rcases hp with hp | hp
    · cases hp
    rcases h with ⟨j, hj, hl⟩ | h
    · rw [hp j hj] at hl; cases hl
    · exact h

theorem mixL_seg {w0 : World} {ls : List Nat} (hs : Region.noSelect ops = true) (hQ : ∀ c a d v w, Q (.panic c) (Act.put a d v) w → Q (.panic c) a w) {ph : Bool} {w : World} {fuel : Nat} {k : Array Bool → Bool} {N : Act → Prop} :
    ∀ (seg : List Nat) (listed : Array Bool) (a : Act), segLB ops ls ph seg listed k = true → (SL (fun j => ls.contains j) (ExtC w0) listed w) → wpQuiet P ops (CL w0 ph) N (seg.map (opAt ops.toList)) a →
      (∀ a' listed', SL (fun j => ls.contains j) (ExtC w0) listed' w → (∀ j, listed.getD j false = true → listed'.getD j false = true) → k listed' = true → N a' → wpAnyL P .any ops Q (fun j => ls.contains j) (ExtC w0) fuel listed' a' w) → wpAnyL P .any ops Q (fun j => ls.contains j) (ExtC w0) (seg.length + fuel) listed a w
  | [], listed, a, hB, hS, h, hk => by simpa using hk a listed hS (fun _ h => h) hB h
  | i :: seg, listed, a, hB, hS, h, hk => by
    simp only [segLB, Bool.and_eq_true] at hB
    obtain ⟨⟨⟨⟨⟨hr, hf⟩, hp⟩, hli⟩, hph⟩, hB⟩ := hB
    have hli' : ls.contains i = false := by simpa using hli
    obtain ⟨o, ho⟩ : ∃ o, ops[i]? = some o := by
      unfold Region.free at hf
      split at hf
      · cases hf
      · exact ⟨_, by assumption⟩
    have ho' : opAt ops.toList i = o := opAt_get (by simpa using ho)
    rw [ho'] at hp
    simp only [List.map_cons, wpQuiet, ho'] at h
    have e : (i :: seg).length + fuel = (seg.length + fuel) + 1 := by simp; omega
    rw [e]
    have hS2 : SL (fun j => ls.contains j) (ExtC w0) (listed.setIfInBounds i true) w := by
      rcases hS with ⟨j, hj, hl⟩ | h
      · exact .inl ⟨j, hj, getD_set_true hl⟩
      · exact .inr h
    have skip : ∀ {v : Value}, YieldsIf P ops (fun _ => True) o v a → wpAnyL P .any ops Q (fun j => ls.contains j) (ExtC w0) (seg.length + fuel) (listed.setIfInBounds i true) (a.put o.dst v) w → wpAnyL P .any ops Q (fun j => ls.contains j) (ExtC w0) (seg.length + fuel + 1) listed a w := by
      intro v hy hrest
      exact wpAnyL_first (C := fun _ => True) (Inv := fun _ => True) ho hli' (Region.noSelect_spec hs) (fun c a w => hQ c a _ _ w) (fun _ _ _ _ _ => trivial) (fun _ _ _ _ => trivial) _ listed a w trivial (Region.free_spec ho hf) (by simpa using hr) hy hS hrest
    have take : ∀ {C : World → Prop} {v : Value}, C = CL w0 ph → (ph || lateB ops ls listed i) = true → YieldsIf P ops C o v a → wpAnyL P .any ops Q (fun j => ls.contains j) (ExtC w0) (seg.length + fuel) (listed.setIfInBounds i true) (a.put o.dst v) w → wpAnyL P .any ops Q (fun j => ls.contains j) (ExtC w0) (seg.length + fuel + 1) listed a w := by
      intro C v hC hph hy hrest
      subst hC
      cases ph with
      | true => exact wpAnyL_first (C := CL w0 true) (Inv := fun _ => True) ho hli' (Region.noSelect_spec hs) (fun c a w => hQ c a _ _ w) (fun _ _ _ _ _ => trivial) (fun _ w _ _ => ⟨⟨w⟩, rfl⟩) _ listed a w trivial (Region.free_spec ho hf) (by simpa using hr) hy hS hrest
      | false =>
        have hl : lateB ops ls listed i = true := by simpa using hph
        obtain ⟨Inv, v1, v2, v3⟩ := late_inv (S := ExtC w0) hl
        exact wpAnyL_first (C := CL w0 false) (Inv := Inv) ho hli' (Region.noSelect_spec hs) (fun c a w => hQ c a _ _ w) v2 v3 _ listed a w v1 (Region.free_spec ho hf) (by simpa using hr) hy hS hrest
    have hcl : CL w0 ph w0 := by
      cases ph with
      | true => exact ⟨⟨w0⟩, rfl⟩
      | false => exact extC_below (Below.refl _ _)
    rw [ho'] at hph
    have hph' : (ph || lateB ops ls listed i) = true ∨ stillOp o = true := by
      simp only [Bool.or_eq_true] at hph ⊢
      rcases hph with h | h | h
      · exact .inl (.inl h)
      · exact .inl (.inr h)
      · exact .inr h
    split at h
    · rename_i hw
      obtain ⟨v, h1, h2⟩ := h
      have rest := mixL_seg hs hQ seg _ _ hB hS2 h2 (fun a' l' h1 h2 h3 h4 => hk a' l' h1 (fun j hj => h2 j (getD_set_true hj)) h3 h4)
      rcases hph' with hph' | hst
      · exact take rfl hph' (yieldsIf_of_quiet hp hw h1) rest
      · exact skip (yieldsIf_still hst hw (h1 _ hcl)) rest
    · rename_i hw
      exact skip (v := undef) (.inr ⟨by simpa using hw, rfl⟩) (mixL_seg hs hQ seg _ _ hB hS2 h (fun a' l' h1 h2 h3 h4 => hk a' l' h1 (fun j hj => h2 j (getD_set_true hj)) h3 h4))

theorem phase_of {w0 w' : World} {ls : List Nat} {ph : Bool} {i : Nat} {l : Array Bool} (hi : l.getD i true = false) (hK : (ph || ls.contains i) = true ∨ Below w0.heap.size w0 w') (hph : ph = true → ∃ j, ls.contains j = true ∧ l.getD j false = true) :
    SL (fun j => ls.contains j) (ExtC w0) (l.setIfInBounds i true) w' := by
  rcases hK with hK | hK
  · simp only [Bool.or_eq_true] at hK
    rcases hK with hK | hK
    · obtain ⟨j, hj, hl⟩ := hph hK
      exact .inl ⟨j, hj, getD_set_true hl⟩
    · refine .inl ⟨i, hK, ?_⟩
      have hlt : i < l.size := by
        rcases Nat.lt_or_ge i l.size with h | h
        · exact h
        · simp [Array.getElem?_eq_none h] at hi
      simp [hlt]
  · exact .inr (extC_below hK)

/-- The operations of the walk, each late phase marked. -/
def mapL (l : List Oper) : List (List Nat × Nat × Bool) → List (List Oper × Oper × Bool)
  | [] => []
  | (seg, i, ph) :: rest => (seg.map (opAt l), opAt l i, ph) :: mapL l rest

theorem mixL_any {w0 : World} {ls : List Nat} (hs : Region.noSelect ops = true) (hQ : ∀ c a d v w, Q (.panic c) (Act.put a d v) w → Q (.panic c) a w) :
    ∀ (sch : List (List Nat × Nat × Bool)) (ph : Bool) (last : List Nat) (listed : Array Bool) (a : Act) (w : World), mixLB ops ls ph sch last listed = true → SL (fun j => ls.contains j) (ExtC w0) listed w → (ph = true → ∃ j, ls.contains j = true ∧ listed.getD j false = true) →
      wpMixL P ops w0 Q ph (mapL ops.toList sch) (last.map (opAt ops.toList)) a w → wpAnyL P .any ops Q (fun j => ls.contains j) (ExtC w0) (mixLLen sch last) listed a w
  | [], ph, last, listed, a, w, hB, hS, _, h => by
    have := mixL_seg (P := P) (Q := Q) (w0 := w0) (ls := ls) hs hQ (fuel := 0) last listed a hB hS h (fun a' listed' _ _ hk hN => (⟨by simpa using hk, hN⟩ : Region.ready .any ops listed' = [] ∧ Q .normal a' w))
    simpa [mixLLen] using this
  | (seg, i, ph') :: rest, ph, last, listed, a, w, hB, hS, hph, h => by
    refine mixL_seg (P := P) (Q := Q) (w0 := w0) (ls := ls) hs hQ (fuel := 1 + mixLLen rest last) seg listed a hB hS h ?_
    intro a' listed' _ hmono hk hN
    simp only [Bool.and_eq_true, beq_iff_eq] at hk
    obtain ⟨⟨hr, hpe⟩, hB'⟩ := hk
    have hph' : ph = true → ∃ j, ls.contains j = true ∧ listed'.getD j false = true := fun h => by obtain ⟨j, h1, h2⟩ := hph h; exact ⟨j, h1, hmono j h2⟩
    rw [Nat.add_comm 1]
    refine ⟨fun h0 => (by rw [hr] at h0; cases h0), ?_⟩
    intro j hj
    have hmem := hj
    rw [hr] at hj
    simp only [List.mem_singleton] at hj
    subst hj
    obtain ⟨hun, o, ho, _⟩ := mem_ready.1 hmem
    have ho' : opAt ops.toList j = o := opAt_get (by simpa using ho)
    simp only [wpList, ho'] at hN
    subst hpe
    have fin : ∀ (a'' : Act) (w' : World), ((ph || ls.contains j) = true ∨ Below w0.heap.size w0 w') ∧ wpMixL P ops w0 Q (ph || ls.contains j) (mapL ops.toList rest) (last.map (opAt ops.toList)) a'' w' →
        SL (fun j => ls.contains j) (ExtC w0) (listed'.setIfInBounds j true) w' ∧ wpAnyL P .any ops Q (fun j => ls.contains j) (ExtC w0) (mixLLen rest last) (listed'.setIfInBounds j true) a'' w' := by
      intro a'' w' hK
      have hSL := phase_of hun hK.1 hph'
      refine ⟨hSL, mixL_any hs hQ rest _ last _ a'' w' hB' hSL (fun hp => ?_) hK.2⟩
      simp only [Bool.or_eq_true] at hp
      rcases hp with hp | hp
      · obtain ⟨k, h1, h2⟩ := hph' hp
        exact ⟨k, h1, getD_set_true h2⟩
      · refine ⟨j, hp, ?_⟩
        have hlt : j < listed'.size := by
          rcases Nat.lt_or_ge j listed'.size with h | h
          · exact h
          · simp [Array.getElem?_eq_none h] at hun
        simp [hlt]
    unfold wpOp
    simp only [ho]
    split
    · rename_i hw
      simp only [hw, if_true] at hN
      rcases hN with hN | ⟨h1, h2⟩
      · exact .inl (upon_then (fun a'' w' hK => fin a'' w' hK) hN)
      · exact .inr ⟨h1, by obtain ⟨b, u, h⟩ := h2; exact ⟨b, u, h⟩⟩
    · rename_i hw
      simp only [hw] at hN
      exact fin _ _ hN

/-- THE LAW. 'ls': the numbers of the late operations. -/
theorem wp_region_mixL (sch : List (List Nat × Nat × Bool)) (last ls : List Nat) {id : Nat} {a : Act} {w : World} {l : List Oper} (hm : P.follows .mixedOrders = true)
    (hB : (Region.noSelect l.toArray && mixLB l.toArray ls false sch last (Array.replicate l.toArray.size false) && decide (mixLLen sch last = l.toArray.size)) = true)
    (hQ : ∀ c a d v w, Q (.panic c) (Act.put a d v) w → Q (.panic c) a w)
    (h : wpMixL P l.toArray w Q false (mapL l sch) (last.map (opAt l)) a w.drew) : (Code.region id l.toArray true).wp P Q a w := by
  simp only [Bool.and_eq_true, decide_eq_true_eq] at hB
  obtain ⟨⟨hs, hB⟩, hl⟩ := hB
  refine wp_region_any hm (wpAny_of_late _ _ _ _ ?_ (late := fun j => ls.contains j) (S := ExtC w))
  have := mixL_any (P := P) (w0 := w) hs hQ sch false last _ a w.drew hB (.inr (extC_below (Below.refl _ _).drew)) (fun h => by cases h) h
  rw [hl] at this
  exact this
end
end Go.Proofs.YtkiefbldkidobaaDoor
