/- A region that draws its order, in which two allocations may come up at once: the walk parts there, and goes each way; pure operations are taken first. -/
import Derived.Test.YtdealgleehbhlaaDoorMixL
namespace Go.Proofs.YtdealgleehbhlaaDoor
open Go.RowKit

section
variable {P : Program} {Q : Exit → Act → World → Prop} {l : List Oper} {ls : List Nat} {w0 : World}

/-- What is left of the region, behind the operations that are listed. 'ph': a late operation has come up. -/
def MT (P : Program) (l : List Oper) (ls : List Nat) (w0 : World) (Q : Exit → Act → World → Prop) (ph : Bool) (fuel : Nat) (listed : Array Bool) (a : Act) (w : World) : Prop :=
  SL (fun j => ls.contains j) (ExtC w0) listed w → (ph = true → ∃ j, ls.contains j = true ∧ listed.getD j false = true) → wpAnyL P .any l.toArray Q (fun j => ls.contains j) (ExtC w0) fuel listed a w

def setAll (seg : List Nat) (listed : Array Bool) : Array Bool := seg.foldl (fun x i => x.setIfInBounds i true) listed

theorem MT.seg (hs : Region.noSelect l.toArray = true) (hQ : ∀ c a d v w, Q (.panic c) (Act.put a d v) w → Q (.panic c) a w) {ph : Bool} {n : Nat} {listed : Array Bool} {a : Act} {w : World} (seg : List Nat) (fuel : Nat)
    (hB : (segLB l.toArray ls ph seg listed (fun x => x == setAll seg listed) && decide (n = seg.length + fuel)) = true)
    (h : wpQuiet P l.toArray (CL w0 ph) (fun a' => MT P l ls w0 Q ph fuel (setAll seg listed) a' w) (seg.map (opAt l)) a) : MT P l ls w0 Q ph n listed a w := by
  simp only [Bool.and_eq_true, decide_eq_true_eq] at hB
  obtain ⟨hB, rfl⟩ := hB
  intro hS hph
  refine mixL_seg (P := P) (Q := Q) (w0 := w0) (ls := ls) hs hQ seg listed a hB hS (by simpa using h) ?_
  intro a' listed' hS' hmono hk hN
  simp only [beq_iff_eq] at hk
  subst hk
  exact hN hS' (fun hp => by obtain ⟨j, h1, h2⟩ := hph hp; exact ⟨j, h1, hmono j h2⟩)

theorem MT.seg0 (hs : Region.noSelect l.toArray = true) (hQ : ∀ c a d v w, Q (.panic c) (Act.put a d v) w → Q (.panic c) a w) {n : Nat} {listed : Array Bool} {a : Act} {w : World} (seg : List Nat) (fuel : Nat)
    (hB : (segLB l.toArray ls false seg listed (fun x => x == setAll seg listed) && decide (n = seg.length + fuel)) = true)
    (h : wpQuiet P l.toArray (fun w' => ∃ p : Ext w0, w' = p.wd) (fun a' => MT P l ls w0 Q false fuel (setAll seg listed) a' w) (seg.map (opAt l)) a) : MT P l ls w0 Q false n listed a w := MT.seg hs hQ seg fuel hB h
theorem MT.op {ph : Bool} {fuel i : Nat} {listed : Array Bool} {a : Act} {w : World} (hph : ph = true → ∃ j, ls.contains j = true ∧ listed.getD j false = true) (hmem : i ∈ Region.ready .any l.toArray listed) {ph' : Bool} (hpe : ph' = (ph || ls.contains i))
    (hN : wpList P l.toArray (Exit.then (fun a'' w' => (ph' = true ∨ Below w0.heap.size w0 w') ∧ MT P l ls w0 Q ph' fuel (listed.setIfInBounds i true) a'' w') Q) [opAt l i] a w) :
    wpOp P l.toArray Q i (fun a' w' => SL (fun j => ls.contains j) (ExtC w0) (listed.setIfInBounds i true) w' ∧ wpAnyL P .any l.toArray Q (fun j => ls.contains j) (ExtC w0) fuel (listed.setIfInBounds i true) a' w') a w := by
  subst hpe
  obtain ⟨hun, o, ho, _⟩ := mem_ready.1 hmem
  have ho' : opAt l i = o := opAt_get (by simpa using ho)
  simp only [wpList, ho'] at hN
  have hlt : i < listed.size := by
    rcases Nat.lt_or_ge i listed.size with h | h
    · exact h
    · simp [Array.getElem?_eq_none h] at hun
  have fin : ∀ (a'' : Act) (w' : World), ((ph || ls.contains i) = true ∨ Below w0.heap.size w0 w') ∧ MT P l ls w0 Q (ph || ls.contains i) fuel (listed.setIfInBounds i true) a'' w' →
      SL (fun j => ls.contains j) (ExtC w0) (listed.setIfInBounds i true) w' ∧ wpAnyL P .any l.toArray Q (fun j => ls.contains j) (ExtC w0) fuel (listed.setIfInBounds i true) a'' w' := by
    intro a'' w' hK
    have hSL := phase_of hun hK.1 hph
    refine ⟨hSL, hK.2 hSL (fun hp => ?_)⟩
    simp only [Bool.or_eq_true] at hp
    rcases hp with hp | hp
    · obtain ⟨k, h1, h2⟩ := hph hp
      exact ⟨k, h1, getD_set_true h2⟩
    · exact ⟨i, hp, by simp [hlt]⟩
  unfold wpOp
  simp only [ho]
  split
  · rename_i hw
    simp only [hw, if_true] at hN
    rcases hN with hN | ⟨h1, h2⟩
    · exact .inl (upon_then (fun a'' w' hK => fin a'' w' hK) hN)
    · exact .inr ⟨h1, by obtain ⟨b, u, h⟩ := h2; exact ⟨b, u, h⟩⟩
  · rename_i hw
    simp only [hw] at hN
    exact fin _ _ hN

theorem MT.one {ph : Bool} {fuel : Nat} {listed : Array Bool} {a : Act} {w : World} (i : Nat) (ph' : Bool) (hB : (Region.ready .any l.toArray listed == [i] && (ph' == (ph || ls.contains i))) = true)
    (h : wpList P l.toArray (Exit.then (fun a'' w' => (ph' = true ∨ Below w0.heap.size w0 w') ∧ MT P l ls w0 Q ph' fuel (listed.setIfInBounds i true) a'' w') Q) [opAt l i] a w) : MT P l ls w0 Q ph (fuel + 1) listed a w := by
  simp only [Bool.and_eq_true, beq_iff_eq] at hB
  obtain ⟨hr, hpe⟩ := hB
  intro hS hph
  refine ⟨fun h0 => (by rw [hr] at h0; cases h0), fun j hj => ?_⟩
  have hmem := hj
  rw [hr] at hj
  simp only [List.mem_singleton] at hj
  subst hj
  exact MT.op hph hmem hpe h

theorem MT.two {ph : Bool} {fuel : Nat} {listed : Array Bool} {a : Act} {w : World} (i k : Nat) (ph' ph'' : Bool) (hB : (Region.ready .any l.toArray listed == [i, k] && (ph' == (ph || ls.contains i)) && (ph'' == (ph || ls.contains k))) = true)
    (h : wpList P l.toArray (Exit.then (fun a'' w' => (ph' = true ∨ Below w0.heap.size w0 w') ∧ MT P l ls w0 Q ph' fuel (listed.setIfInBounds i true) a'' w') Q) [opAt l i] a w)
    (h2 : wpList P l.toArray (Exit.then (fun a'' w' => (ph'' = true ∨ Below w0.heap.size w0 w') ∧ MT P l ls w0 Q ph'' fuel (listed.setIfInBounds k true) a'' w') Q) [opAt l k] a w) : MT P l ls w0 Q ph (fuel + 1) listed a w := by
  simp only [Bool.and_eq_true, beq_iff_eq] at hB
  obtain ⟨⟨hr, hpe⟩, hpe2⟩ := hB
  intro hS hph
  refine ⟨fun h0 => (by rw [hr] at h0; cases h0), fun j hj => ?_⟩
  have hmem := hj
  rw [hr] at hj
  simp only [List.mem_cons, List.not_mem_nil, or_false] at hj
  rcases hj with rfl | rfl
  · exact MT.op hph hmem hpe h
  · exact MT.op hph hmem hpe2 h2

theorem MT.fin {ph : Bool} {listed : Array Bool} {a : Act} {w : World} (hB : (Region.ready .any l.toArray listed).isEmpty = true) (h : Q .normal a w) : MT P l ls w0 Q ph 0 listed a w :=
  fun _ _ => ⟨by simpa using hB, h⟩

/-- THE LAW. -/
theorem wp_region_tree (ls : List Nat) (n : Nat) {id : Nat} {a : Act} {w : World} {l : List Oper} (hm : P.follows .mixedOrders = true) (hn : l.toArray.size = n)
    (h : MT P l ls w Q false n (Array.replicate n false) a w.drew) : (Code.region id l.toArray true).wp P Q a w := by
  subst hn
  exact wp_region_any hm (wpAny_of_late _ _ _ _ (h (.inr (extC_below (Below.refl _ _).drew)) (fun h => by cases h)) (late := fun j => ls.contains j) (S := ExtC w))
end
end Go.Proofs.YtdealgleehbhlaaDoor
