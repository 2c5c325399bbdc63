/- A map of numbers, as the list of what it has. -/
import Derived.Test.YtgaannoghefbbaaDoorValsMath2
import Derived.Shelf.SlIterI.Nil
namespace Go.Proofs.YtgaannoghefbbaaDoor
open Go.RowKit Go.Maps Go.Sort

/-- A number of 64 bits. -/
def InZ (n : Int) : Prop := (Lit.int .i64 n).wf = true
/-- What stands at a key plays no part. -/
def unitElem : Value → Option (DataW Unit × List MemPlace) := fun _ => some (.lit (.bool true), [])
/-- A map that has the numbers of a list. -/
def SetAt (w : World) (b n : Nat) (l : List Int) : Prop := ∃ D, w.ownsMap Tryd.prog 2 unitElem b n D ∧ ∀ x, has D (.int .i64 x) = true ↔ x ∈ l
theorem keyed64 : Keyed Tryd.prog 2 := int_keyed Tryd.underlying2
theorem SetAt.made (w : World) : SetAt (w.alloc (.map #[] 0)) w.heap.size 0 [] := ⟨_, World.ownsMap_made w Tryd.prog 2 unitElem, fun x => by simp [has]⟩
theorem SetAt.keep {w w' : World} {b n : Nat} {l : List Int} (h : SetAt w b n l) (hb : Below w.heap.size w w') : SetAt w' b n l := by
  obtain ⟨D, h1, h2⟩ := h
  exact ⟨D, h1.kept (Below.grownBy hb) (by simp), h2⟩
theorem SetAt.put {w : World} {b n : Nat} {l : List Int} (h : SetAt w b n l) (hn : n ≤ 1000000) {x : Int} (hx : InZ x) (val : Value) :
    ∃ w', (Instr.mapUpdate 77 (.map (some b)) (.int .i64 x) val).run Tryd.prog w = .ok () w' ∧ SetAt w' b (n + 1) (l ++ [x]) ∧ w.grownBy w' (some b) := by
  obtain ⟨D, h1, h2⟩ := h
  obtain ⟨w', r1, o1, g1⟩ := h1.update (t := 77) keyed64 Tryd.underlying77 (by unfold maxLen; omega) (keyOf_int_mk Tryd.underlying2 hx) (show unitElem val = _ from rfl)
  refine ⟨w', r1, ⟨_, o1, fun y => ?_⟩, g1⟩
  by_cases e : y = x
  · subst e
    rw [has_put_same h1.isMap (show WideAt.IsKeyLit (.int .i64 y) from trivial)]
    simp
  · rw [has_put_other (fun k => e (by injection k))]
    rw [h2 y]
    simp [e]

theorem up_nodup {l : List Int} (h : Up l) : l.Nodup := h.imp fun h => by omega
theorem up_sorted {l : List Int} (h : Up l) : l.mergeSort leI = l :=
  List.mergeSort_of_pairwise (h.imp fun h => by simp only [leI, decide_eq_true_eq]; omega)
/-- The map's numbers, sorted. -/
theorem SetAt.sorted {w : World} {b n : Nat} {D : DataW Unit} {l ss : List Int} (h : w.ownsMap Tryd.prog 2 unitElem b n D) (h2 : ∀ x, has D (.int .i64 x) = true ↔ x ∈ l) (hs : ss.Perm (intKeys D)) : ss.mergeSort leI = putsN [] l := by
  obtain ⟨es, hD, hpw, _⟩ := h.entries keyed64
  obtain ⟨es', hD', hko⟩ := h.keysOf
  obtain rfl : es = es' := by rw [hD] at hD'; simpa using hD'
  have hup : Up (putsN [] l) := up_putsN (by simp [Up])
  subst hD
  have hp : (putsN [] l).Perm (intKeys (.map es)) := perm_intKeys hpw (fun p hp => by obtain ⟨v, hv⟩ := hko p hp; obtain ⟨x, _, hx, _⟩ := Maps.keyOf_i64 Tryd.underlying2 hv; exact ⟨x, hx⟩) (up_nodup hup) (fun x => by rw [h2 x, mem_putsN]; simp)
  rw [mergeSort_of_perm_i (hs.trans hp.symm), up_sorted hup]

/-- A row of numbers that a call has made. -/
theorem own_ints {w : World} {base : Nat} {e : TypeId} {v : Value} {l : List Int} (h : w.ownsRow base e 1 v l.length (l.map encZ)) : Own (fun _ => False) IntE w base e v l :=
  ⟨l.map fun x => [.int .i64 x], by
    have e1 : (l.map fun x => [Value.int .i64 x]).flatten = l.map encZ := by
      clear h
      induction l with
      | nil => rfl
      | cons x l ih => simp [ih]
    rw [e1]; exact h, by simp, fun i h h' => by
    show _ = [Value.int .i64 l[i]]
    simp⟩

end Go.Proofs.YtgaannoghefbbaaDoor
