/- MixT: MixT, MixA, in one text. -/
import Derived.Test.YtgffeihfcmbobaaBase
/- A region that draws its order, in which two allocations may come up at once: the walk parts there, and goes each way; pure operations are taken first. -/
namespace Go.Proofs.Ytgffeihfcmbobaa
open Go.RowKit

section
variable {P : Program} {Q : Exit → Act → World → Prop} {l : List Oper} {ls : List Nat} {w0 : World}

/-- What is left of the region, behind the operations that are listed. 'ph': a late operation has come up. -/
def MT (P : Program) (l : List Oper) (ls : List Nat) (w0 : World) (Q : Exit → Act → World → Prop) (ph : Bool) (fuel : Nat) (listed : Array Bool) (a : Act) (w : World) : Prop :=
  SL (fun j => ls.contains j) (ExtC w0) listed w → (ph = true → ∃ j, ls.contains j = true ∧ listed.getD j false = true) → wpAnyL P .any l.toArray Q (fun j => ls.contains j) (ExtC w0) fuel listed a w

def setAll (seg : List Nat) (listed : Array Bool) : Array Bool := seg.foldl (fun x i => x.setIfInBounds i true) listed

theorem MT.seg (hs : Region.noSelect l.toArray = true) (hQ : ∀ c a d v w, Q (.panic c) (Act.put a d v) w → Q (.panic c) a w) {ph : Bool} {n : Nat} {listed : Array Bool} {a : Act} {w : World} (seg : List Nat) (fuel : Nat)
    (hB : (segLB l.toArray ls ph seg listed (fun x => x == setAll seg listed) && decide (n = seg.length + fuel)) = true)
    (h : wpQuiet P l.toArray (CL w0 ph) (fun a' => MT P l ls w0 Q ph fuel (setAll seg listed) a' w) (seg.map (opAt l)) a) : MT P l ls w0 Q ph n listed a w := by
  simp only [Bool.and_eq_true, decide_eq_true_eq] at hB
  obtain ⟨hB, rfl⟩ := hB
  intro hS hph
  refine mixL_seg (P := P) (Q := Q) (w0 := w0) (ls := ls) hs hQ seg listed a hB hS (by simpa using h) ?_
  intro a' listed' hS' hmono hk hN
  simp only [beq_iff_eq] at hk
  subst hk
  exact hN hS' (fun hp => by obtain ⟨j, h1, h2⟩ := hph hp; exact ⟨j, h1, hmono j h2⟩)

theorem MT.seg0 (hs : Region.noSelect l.toArray = true) (hQ : ∀ c a d v w, Q (.panic c) (Act.put a d v) w → Q (.panic c) a w) {n : Nat} {listed : Array Bool} {a : Act} {w : World} (seg : List Nat) (fuel : Nat)
    (hB : (segLB l.toArray ls false seg listed (fun x => x == setAll seg listed) && decide (n = seg.length + fuel)) = true)
    (h : wpQuiet P l.toArray (fun w' => ∃ p : Ext w0, w' = p.wd) (fun a' => MT P l ls w0 Q false fuel (setAll seg listed) a' w) (seg.map (opAt l)) a) : MT P l ls w0 Q false n listed a w := MT.seg hs hQ seg fuel hB h
theorem MT.op {ph : Bool} {fuel i : Nat} {listed : Array Bool} {a : Act} {w : World} (hph : ph = true → ∃ j, ls.contains j = true ∧ listed.getD j false = true) (hmem : i ∈ Region.ready .any l.toArray listed) {ph' : Bool} (hpe : ph' = (ph || ls.contains i))
    (hN : wpList P l.toArray (Exit.then (fun a'' w' => (ph' = true ∨ Below w0.heap.size w0 w') ∧ MT P l ls w0 Q ph' fuel (listed.setIfInBounds i true) a'' w') Q) [opAt l i] a w) :
    wpOp P l.toArray Q i (fun a' w' => SL (fun j => ls.contains j) (ExtC w0) (listed.setIfInBounds i true) w' ∧ wpAnyL P .any l.toArray Q (fun j => ls.contains j) (ExtC w0) fuel (listed.setIfInBounds i true) a' w') a w := by
  subst hpe
  obtain ⟨hun, o, ho, _⟩ := mem_ready.1 hmem
  have ho' : opAt l i = o := opAt_get (by simpa using ho)
  simp only [wpList, ho'] at hN
  have hlt : i < listed.size := by
    rcases Nat.lt_or_ge i listed.size with h | h
    · exact h
    · simp [Array.getElem?_eq_none h] at hun
  have fin : ∀ (a'' : Act) (w' : World), ((ph || ls.contains i) = true ∨ Below w0.heap.size w0 w') ∧ MT P l ls w0 Q (ph || ls.contains i) fuel (listed.setIfInBounds i true) a'' w' →
      SL (fun j => ls.contains j) (ExtC w0) (listed.setIfInBounds i true) w' ∧ wpAnyL P .any l.toArray Q (fun j => ls.contains j) (ExtC w0) fuel (listed.setIfInBounds i true) a'' w' := by
    intro a'' w' hK
    have hSL := phase_of hun hK.1 hph
    refine ⟨hSL, hK.2 hSL (fun hp => ?_)⟩
    simp only [Bool.or_eq_true] at hp
    rcases hp with hp | hp
    · obtain ⟨k, h1, h2⟩ := hph hp
      exact ⟨k, h1, getD_set_true h2⟩
    · exact ⟨i, hp, by simp [hlt]⟩
  unfold wpOp
  simp only [ho]
  split
  · rename_i hw
    simp only [hw, if_true] at hN
    rcases hN with hN | ⟨h1, h2⟩
    · exact .inl (upon_then (fun a'' w' hK => fin a'' w' hK) hN)
    · exact .inr ⟨h1, by obtain ⟨b, u, h⟩ := h2; exact ⟨b, u, h⟩⟩
  · rename_i hw
    simp only [hw] at hN
    exact fin _ _ hN

theorem MT.one {ph : Bool} {fuel : Nat} {listed : Array Bool} {a : Act} {w : World} (i : Nat) (ph' : Bool) (hB : (Region.ready .any l.toArray listed == [i] && (ph' == (ph || ls.contains i))) = true)
    (h : wpList P l.toArray (Exit.then (fun a'' w' => (ph' = true ∨ Below w0.heap.size w0 w') ∧ MT P l ls w0 Q ph' fuel (listed.setIfInBounds i true) a'' w') Q) [opAt l i] a w) : MT P l ls w0 Q ph (fuel + 1) listed a w := by
  simp only [Bool.and_eq_true, beq_iff_eq] at hB
  obtain ⟨hr, hpe⟩ := hB
  intro hS hph
  refine ⟨fun h0 => (by rw [hr] at h0; cases h0), fun j hj => ?_⟩
  have hmem := hj
  rw [hr] at hj
  simp only [List.mem_singleton] at hj
  subst hj
  exact MT.op hph hmem hpe h

theorem MT.two {ph : Bool} {fuel : Nat} {listed : Array Bool} {a : Act} {w : World} (i k : Nat) (ph' ph'' : Bool) (hB : (Region.ready .any l.toArray listed == [i, k] && (ph' == (ph || ls.contains i)) && (ph'' == (ph || ls.contains k))) = true)
    (h : wpList P l.toArray (Exit.then (fun a'' w' => (ph' = true ∨ Below w0.heap.size w0 w') ∧ MT P l ls w0 Q ph' fuel (listed.setIfInBounds i true) a'' w') Q) [opAt l i] a w)
    (h2 : wpList P l.toArray (Exit.then (fun a'' w' => (ph'' = true ∨ Below w0.heap.size w0 w') ∧ MT P l ls w0 Q ph'' fuel (listed.setIfInBounds k true) a'' w') Q) [opAt l k] a w) : MT P l ls w0 Q ph (fuel + 1) listed a w := by
  simp only [Bool.and_eq_true, beq_iff_eq] at hB
  obtain ⟨⟨hr, hpe⟩, hpe2⟩ := hB
  intro hS hph
  refine ⟨fun h0 => (by rw [hr] at h0; cases h0), fun j hj => ?_⟩
  have hmem := hj
  rw [hr] at hj
  simp only [List.mem_cons, List.not_mem_nil, or_false] at hj
  rcases hj with rfl | rfl
  · exact MT.op hph hmem hpe h
  · exact MT.op hph hmem hpe2 h2

theorem MT.three {ph : Bool} {fuel : Nat} {listed : Array Bool} {a : Act} {w : World} (i k m : Nat) (ph' ph'' ph3 : Bool) (hB : (Region.ready .any l.toArray listed == [i, k, m] && (ph' == (ph || ls.contains i)) && (ph'' == (ph || ls.contains k)) && (ph3 == (ph || ls.contains m))) = true)
    (h : wpList P l.toArray (Exit.then (fun a'' w' => (ph' = true ∨ Below w0.heap.size w0 w') ∧ MT P l ls w0 Q ph' fuel (listed.setIfInBounds i true) a'' w') Q) [opAt l i] a w)
    (h2 : wpList P l.toArray (Exit.then (fun a'' w' => (ph'' = true ∨ Below w0.heap.size w0 w') ∧ MT P l ls w0 Q ph'' fuel (listed.setIfInBounds k true) a'' w') Q) [opAt l k] a w)
    (h3 : wpList P l.toArray (Exit.then (fun a'' w' => (ph3 = true ∨ Below w0.heap.size w0 w') ∧ MT P l ls w0 Q ph3 fuel (listed.setIfInBounds m true) a'' w') Q) [opAt l m] a w) : MT P l ls w0 Q ph (fuel + 1) listed a w := by
  simp only [Bool.and_eq_true, beq_iff_eq] at hB
  obtain ⟨⟨⟨hr, hpe⟩, hpe2⟩, hpe3⟩ := hB
  intro hS hph
  refine ⟨fun h0 => (by rw [hr] at h0; cases h0), fun j hj => ?_⟩
  have hmem := hj
  rw [hr] at hj
  simp only [List.mem_cons, List.not_mem_nil, or_false] at hj
  rcases hj with rfl | rfl | rfl
  · exact MT.op hph hmem hpe h
  · exact MT.op hph hmem hpe2 h2
  · exact MT.op hph hmem hpe3 h3

theorem MT.fin {ph : Bool} {listed : Array Bool} {a : Act} {w : World} (hB : (Region.ready .any l.toArray listed).isEmpty = true) (h : Q .normal a w) : MT P l ls w0 Q ph 0 listed a w :=
  fun _ _ => ⟨by simpa using hB, h⟩

/-- THE LAW. -/
theorem wp_region_tree (ls : List Nat) (n : Nat) {id : Nat} {a : Act} {w : World} {l : List Oper} (hm : P.follows .mixedOrders = true) (hn : l.toArray.size = n)
    (h : MT P l ls w Q false n (Array.replicate n false) a w.drew) : (Code.region id l.toArray true).wp P Q a w := by
  subst hn
  exact wp_region_any hm (wpAny_of_late _ _ _ _ (h (.inr (extC_below (Below.refl _ _).drew)) (fun h => by cases h)) (late := fun j => ls.contains j) (S := ExtC w))
end
end Go.Proofs.Ytgffeihfcmbobaa

/- A region that draws its order, in which a row of one's own is written, and read by nothing else there: pure operations are asked in all worlds in which nothing but that has changed; a call that turns more comes last. -/
namespace Go.Proofs.Ytgffeihfcmbobaa
open Go.RowKit

/-- A world in which what has changed lies in A, or is new. -/
structure OnlyX (A : Nat → Prop) (w : World) where
  wd : World
  ok : Only A w wd
def OnlyC (A : Nat → Prop) (w : World) : World → Prop := fun w' => ∃ p : OnlyX A w, w' = p.wd
theorem onlyC_of {A : Nat → Prop} {w w' : World} (h : Only A w w') : OnlyC A w w' := ⟨⟨w', h⟩, rfl⟩
theorem onlyX_some (A : Nat → Prop) (w : World) : Nonempty (OnlyX A w) := ⟨⟨w, Only.refl⟩⟩
theorem OnlyX.cell {A : Nat → Prop} {w : World} (p : OnlyX A w) (b o : Nat) (h : b < w.heap.size) (ha : ¬ A b) : p.wd.cell? ⟨b, o, none⟩ = w.cell? ⟨b, o, none⟩ := World.cell?_of_block (w := w) (a := ⟨b, o, none⟩) (p.ok.block b h ha)
section
variable {P : Program} {ops : Array Oper} {Q : Exit → Act → World → Prop} {A : Nat → Prop}

/-- Worlds in which pure operations are asked: those that have grown out of w0; all, once a late operation has come up. -/
def CLA (A : Nat → Prop) (w0 : World) : Bool → World → Prop
  | false, w' => ∃ p : OnlyX A w0, w' = p.wd
  | true, w' => ∃ p : AnyW, w' = p.wd
/-- THE WALK. -/
def wpMixA (A : Nat → Prop) (P : Program) (ops : Array Oper) (w0 : World) (Q : Exit → Act → World → Prop) : Bool → List (List Oper × Oper × Bool) → List Oper → Act → World → Prop
  | ph, [], last, a, w => wpQuiet P ops (CLA A w0 ph) (fun a' => Q .normal a' w) last a
  | ph, (seg, o, ph') :: rest, last, a, w => wpQuiet P ops (CLA A w0 ph) (fun a' => wpList P ops (Exit.then (fun a'' w' => (ph' = true ∨ Only A w0 w') ∧ wpMixA A P ops w0 Q ph' rest last a'' w') Q) [o] a' w) seg a

theorem wpMixA_stage {w0 : World} {seg : List Oper} {o : Oper} {rest : List (List Oper × Oper × Bool)} {last : List Oper} {a : Act} {w : World} {ph' : Bool}
    (h : wpQuiet P ops (fun w' => ∃ p : OnlyX A w0, w' = p.wd) (fun a' => wpList P ops (Exit.then (fun a'' w' => (ph' = true ∨ Only A w0 w') ∧ wpMixA A P ops w0 Q ph' rest last a'' w') Q) [o] a' w) seg a) : wpMixA A P ops w0 Q false ((seg, o, ph') :: rest) last a w := h
theorem wpMixA_stage_late {w0 : World} {seg : List Oper} {o : Oper} {rest : List (List Oper × Oper × Bool)} {last : List Oper} {a : Act} {w : World} {ph' : Bool}
    (h : wpQuiet P ops (fun w' => ∃ p : AnyW, w' = p.wd) (fun a' => wpList P ops (Exit.then (fun a'' w' => (ph' = true ∨ Only A w0 w') ∧ wpMixA A P ops w0 Q ph' rest last a'' w') Q) [o] a' w) seg a) : wpMixA A P ops w0 Q true ((seg, o, ph') :: rest) last a w := h
theorem wpMixA_last {w0 : World} {last : List Oper} {a : Act} {w : World} (h : wpQuiet P ops (fun w' => ∃ p : AnyW, w' = p.wd) (fun a' => Q .normal a' w) last a) : wpMixA A P ops w0 Q true [] last a w := h

theorem CL_ofA {w0 w : World} {ls : List Nat} {listed : Array Bool} : SL (fun j => ls.contains j) (OnlyC A w0) listed w → ∀ ph, ph = true ∨ (∀ j, ls.contains j = true → listed.getD j false = false) → CLA A w0 ph w := by
  intro h ph hp
  cases ph with
  | true => exact ⟨⟨w⟩, rfl⟩
  | false =>
    rcases hp with hp | hp
    · cases hp
    rcases h with ⟨j, hj, hl⟩ | h
    · rw [hp j hj] at hl; cases hl
    · exact h

theorem mixA_seg {w0 : World} {ls : List Nat} (hs : Region.noSelect ops = true) (hQ : ∀ c a d v w, Q (.panic c) (Act.put a d v) w → Q (.panic c) a w) {ph : Bool} {w : World} {fuel : Nat} {k : Array Bool → Bool} {N : Act → Prop} :
    ∀ (seg : List Nat) (listed : Array Bool) (a : Act), segLB ops ls ph seg listed k = true → (SL (fun j => ls.contains j) (OnlyC A w0) listed w) → wpQuiet P ops (CLA A w0 ph) N (seg.map (opAt ops.toList)) a →
      (∀ a' listed', SL (fun j => ls.contains j) (OnlyC A w0) listed' w → (∀ j, listed.getD j false = true → listed'.getD j false = true) → k listed' = true → N a' → wpAnyL P .any ops Q (fun j => ls.contains j) (OnlyC A w0) fuel listed' a' w) → wpAnyL P .any ops Q (fun j => ls.contains j) (OnlyC A w0) (seg.length + fuel) listed a w
  | [], listed, a, hB, hS, h, hk => by simpa using hk a listed hS (fun _ h => h) hB h
  | i :: seg, listed, a, hB, hS, h, hk => by
    simp only [segLB, Bool.and_eq_true] at hB
    obtain ⟨⟨⟨⟨⟨hr, hf⟩, hp⟩, hli⟩, hph⟩, hB⟩ := hB
    have hli' : ls.contains i = false := by simpa using hli
    obtain ⟨o, ho⟩ : ∃ o, ops[i]? = some o := by
      unfold Region.free at hf
      split at hf
      · cases hf
      · exact ⟨_, by assumption⟩
    have ho' : opAt ops.toList i = o := opAt_get (by simpa using ho)
    rw [ho'] at hp
    simp only [List.map_cons, wpQuiet, ho'] at h
    have e : (i :: seg).length + fuel = (seg.length + fuel) + 1 := by simp; omega
    rw [e]
    have hS2 : SL (fun j => ls.contains j) (OnlyC A w0) (listed.setIfInBounds i true) w := by
      rcases hS with ⟨j, hj, hl⟩ | h
      · exact .inl ⟨j, hj, getD_set_true hl⟩
      · exact .inr h
    have skip : ∀ {v : Value}, YieldsIf P ops (fun _ => True) o v a → wpAnyL P .any ops Q (fun j => ls.contains j) (OnlyC A w0) (seg.length + fuel) (listed.setIfInBounds i true) (a.put o.dst v) w → wpAnyL P .any ops Q (fun j => ls.contains j) (OnlyC A w0) (seg.length + fuel + 1) listed a w := by
      intro v hy hrest
      exact wpAnyL_first (C := fun _ => True) (Inv := fun _ => True) ho hli' (Region.noSelect_spec hs) (fun c a w => hQ c a _ _ w) (fun _ _ _ _ _ => trivial) (fun _ _ _ _ => trivial) _ listed a w trivial (Region.free_spec ho hf) (by simpa using hr) hy hS hrest
    have take : ∀ {C : World → Prop} {v : Value}, C = CLA A w0 ph → (ph || lateB ops ls listed i) = true → YieldsIf P ops C o v a → wpAnyL P .any ops Q (fun j => ls.contains j) (OnlyC A w0) (seg.length + fuel) (listed.setIfInBounds i true) (a.put o.dst v) w → wpAnyL P .any ops Q (fun j => ls.contains j) (OnlyC A w0) (seg.length + fuel + 1) listed a w := by
      intro C v hC hph hy hrest
      subst hC
      cases ph with
      | true => exact wpAnyL_first (C := CLA A w0 true) (Inv := fun _ => True) ho hli' (Region.noSelect_spec hs) (fun c a w => hQ c a _ _ w) (fun _ _ _ _ _ => trivial) (fun _ w _ _ => ⟨⟨w⟩, rfl⟩) _ listed a w trivial (Region.free_spec ho hf) (by simpa using hr) hy hS hrest
      | false =>
        have hl : lateB ops ls listed i = true := by simpa using hph
        obtain ⟨Inv, v1, v2, v3⟩ := late_inv (S := OnlyC A w0) hl
        exact wpAnyL_first (C := CLA A w0 false) (Inv := Inv) ho hli' (Region.noSelect_spec hs) (fun c a w => hQ c a _ _ w) v2 v3 _ listed a w v1 (Region.free_spec ho hf) (by simpa using hr) hy hS hrest
    have hcl : CLA A w0 ph w0 := by
      cases ph with
      | true => exact ⟨⟨w0⟩, rfl⟩
      | false => exact onlyC_of Only.refl
    rw [ho'] at hph
    have hph' : (ph || lateB ops ls listed i) = true ∨ stillOp o = true := by
      simp only [Bool.or_eq_true] at hph ⊢
      rcases hph with h | h | h
      · exact .inl (.inl h)
      · exact .inl (.inr h)
      · exact .inr h
    split at h
    · rename_i hw
      obtain ⟨v, h1, h2⟩ := h
      have rest := mixA_seg hs hQ seg _ _ hB hS2 h2 (fun a' l' h1 h2 h3 h4 => hk a' l' h1 (fun j hj => h2 j (getD_set_true hj)) h3 h4)
      rcases hph' with hph' | hst
      · exact take rfl hph' (yieldsIf_of_quiet hp hw h1) rest
      · exact skip (yieldsIf_still hst hw (h1 _ hcl)) rest
    · rename_i hw
      exact skip (v := undef) (.inr ⟨by simpa using hw, rfl⟩) (mixA_seg hs hQ seg _ _ hB hS2 h (fun a' l' h1 h2 h3 h4 => hk a' l' h1 (fun j hj => h2 j (getD_set_true hj)) h3 h4))

theorem phase_ofA {w0 w' : World} {ls : List Nat} {ph : Bool} {i : Nat} {l : Array Bool} (hi : l.getD i true = false) (hK : (ph || ls.contains i) = true ∨ Only A w0 w') (hph : ph = true → ∃ j, ls.contains j = true ∧ l.getD j false = true) :
    SL (fun j => ls.contains j) (OnlyC A w0) (l.setIfInBounds i true) w' := by
  rcases hK with hK | hK
  · simp only [Bool.or_eq_true] at hK
    rcases hK with hK | hK
    · obtain ⟨j, hj, hl⟩ := hph hK
      exact .inl ⟨j, hj, getD_set_true hl⟩
    · refine .inl ⟨i, hK, ?_⟩
      have hlt : i < l.size := by
        rcases Nat.lt_or_ge i l.size with h | h
        · exact h
        · simp [Array.getElem?_eq_none h] at hi
      simp [hlt]
  · exact .inr (onlyC_of hK)

theorem mixA_any {w0 : World} {ls : List Nat} (hs : Region.noSelect ops = true) (hQ : ∀ c a d v w, Q (.panic c) (Act.put a d v) w → Q (.panic c) a w) :
    ∀ (sch : List (List Nat × Nat × Bool)) (ph : Bool) (last : List Nat) (listed : Array Bool) (a : Act) (w : World), mixLB ops ls ph sch last listed = true → SL (fun j => ls.contains j) (OnlyC A w0) listed w → (ph = true → ∃ j, ls.contains j = true ∧ listed.getD j false = true) →
      wpMixA A P ops w0 Q ph (mapL ops.toList sch) (last.map (opAt ops.toList)) a w → wpAnyL P .any ops Q (fun j => ls.contains j) (OnlyC A w0) (mixLLen sch last) listed a w
  | [], ph, last, listed, a, w, hB, hS, _, h => by
    have := mixA_seg (P := P) (Q := Q) (w0 := w0) (ls := ls) hs hQ (fuel := 0) last listed a hB hS h (fun a' listed' _ _ hk hN => (⟨by simpa using hk, hN⟩ : Region.ready .any ops listed' = [] ∧ Q .normal a' w))
    simpa [mixLLen] using this
  | (seg, i, ph') :: rest, ph, last, listed, a, w, hB, hS, hph, h => by
    refine mixA_seg (P := P) (Q := Q) (w0 := w0) (ls := ls) hs hQ (fuel := 1 + mixLLen rest last) seg listed a hB hS h ?_
    intro a' listed' _ hmono hk hN
    simp only [Bool.and_eq_true, beq_iff_eq] at hk
    obtain ⟨⟨hr, hpe⟩, hB'⟩ := hk
    have hph' : ph = true → ∃ j, ls.contains j = true ∧ listed'.getD j false = true := fun h => by obtain ⟨j, h1, h2⟩ := hph h; exact ⟨j, h1, hmono j h2⟩
    rw [Nat.add_comm 1]
    refine ⟨fun h0 => (by rw [hr] at h0; cases h0), ?_⟩
    intro j hj
    have hmem := hj
    rw [hr] at hj
    simp only [List.mem_singleton] at hj
    subst hj
    obtain ⟨hun, o, ho, _⟩ := mem_ready.1 hmem
    have ho' : opAt ops.toList j = o := opAt_get (by simpa using ho)
    simp only [wpList, ho'] at hN
    subst hpe
    have fin : ∀ (a'' : Act) (w' : World), ((ph || ls.contains j) = true ∨ Only A w0 w') ∧ wpMixA A P ops w0 Q (ph || ls.contains j) (mapL ops.toList rest) (last.map (opAt ops.toList)) a'' w' →
        SL (fun j => ls.contains j) (OnlyC A w0) (listed'.setIfInBounds j true) w' ∧ wpAnyL P .any ops Q (fun j => ls.contains j) (OnlyC A w0) (mixLLen rest last) (listed'.setIfInBounds j true) a'' w' := by
      intro a'' w' hK
      have hSL := phase_ofA hun hK.1 hph'
      refine ⟨hSL, mixA_any hs hQ rest _ last _ a'' w' hB' hSL (fun hp => ?_) hK.2⟩
      simp only [Bool.or_eq_true] at hp
      rcases hp with hp | hp
      · obtain ⟨k, h1, h2⟩ := hph' hp
        exact ⟨k, h1, getD_set_true h2⟩
      · refine ⟨j, hp, ?_⟩
        have hlt : j < listed'.size := by
          rcases Nat.lt_or_ge j listed'.size with h | h
          · exact h
          · simp [Array.getElem?_eq_none h] at hun
        simp [hlt]
    unfold wpOp
    simp only [ho]
    split
    · rename_i hw
      simp only [hw, if_true] at hN
      rcases hN with hN | ⟨h1, h2⟩
      · exact .inl (upon_then (fun a'' w' hK => fin a'' w' hK) hN)
      · exact .inr ⟨h1, by obtain ⟨b, u, h⟩ := h2; exact ⟨b, u, h⟩⟩
    · rename_i hw
      simp only [hw] at hN
      exact fin _ _ hN

/-- THE LAW. 'ls': the numbers of the late operations. -/
theorem wp_region_mixA (sch : List (List Nat × Nat × Bool)) (last ls : List Nat) {id : Nat} {a : Act} {w : World} {l : List Oper} (hm : P.follows .mixedOrders = true)
    (hB : (Region.noSelect l.toArray && mixLB l.toArray ls false sch last (Array.replicate l.toArray.size false) && decide (mixLLen sch last = l.toArray.size)) = true)
    (hQ : ∀ c a d v w, Q (.panic c) (Act.put a d v) w → Q (.panic c) a w)
    (h : wpMixA A P l.toArray w Q false (mapL l sch) (last.map (opAt l)) a w.drew) : (Code.region id l.toArray true).wp P Q a w := by
  simp only [Bool.and_eq_true, decide_eq_true_eq] at hB
  obtain ⟨⟨hs, hB⟩, hl⟩ := hB
  refine wp_region_any hm (wpAny_of_late _ _ _ _ ?_ (late := fun j => ls.contains j) (S := OnlyC A w))
  have := mixA_any (P := P) (w0 := w) hs hQ sch false last _ a w.drew hB (.inr (onlyC_of Only.refl.drewR)) (fun h => by cases h) h
  rw [hl] at this
  exact this
end
end Go.Proofs.Ytgffeihfcmbobaa
