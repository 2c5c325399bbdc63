/- The contract of cupolaref01.Ints: whether two lists are the same. -/
import Derived.Test.YtckaniemilmphaaDoorProg
import Derived.Test.YtckaniemilmphaaDoorKit
namespace Go.Proofs.YtckaniemilmphaaDoor
open Go.RowKit

/-- A slice of ints that reads as a list. -/
def IntSl (w : World) (v : Value) (xs : List Int) : Prop :=
  (v = .slice none 0 0 ∧ xs = []) ∨ ∃ b o cap, v = .slice (some ⟨b, o, none⟩) xs.length cap ∧ ∀ i, i < xs.length → w.cell? ⟨b, o + i, none⟩ = some (.int .i64 (xs.getD i 0))

theorem ints_step (xs ys : List Int) (k : Nat) (hx : k < xs.length) (hy : k < ys.length) (h : xs.take k = ys.take k) (e : xs.getD k 0 = ys.getD k 0) : xs.take (k + 1) = ys.take (k + 1) := by
  rw [List.take_succ_eq_append_getElem hx, List.take_succ_eq_append_getElem hy, h]
  simp [List.getD_eq_getElem?_getD, List.getElem?_eq_getElem hx, List.getElem?_eq_getElem hy] at e
  rw [e]

/-- What the call owns reads so. -/
theorem ints_own {w : World} {base : Nat} {e : TypeId} {v : Value} {xs : List Int} (h : w.ownsRow base e 1 v xs.length (xs.map (Value.int .i64))) : IntSl w v xs := by
  rcases h.2 with ⟨rfl, h0⟩ | ⟨g, cap, cur, rfl, hb, hg, _, _, _, _⟩
  · exact .inl ⟨rfl, List.length_eq_zero_iff.1 h0⟩
  · refine .inr ⟨g, 0, cap, rfl, fun i hi => ?_⟩
    have := h.cells (g := g) rfl i (.int .i64 (xs.getD i 0)) (by simp [List.getElem?_map, List.getElem?_eq_getElem hi, List.getD_eq_getElem?_getD])
    by_cases h0 : i = 0
    · subst h0; simpa [Addr.add] using this
    · simpa [Addr.add, h0] using this
theorem IntSl.below {w w' : World} {v : Value} {xs : List Int} (h : IntSl w v xs) (hb : Below w.heap.size w w') : IntSl w' v xs := by
  rcases h with h | ⟨b, o, c, rfl, hx⟩
  · exact .inl h
  · refine .inr ⟨b, o, c, rfl, fun i hi => ?_⟩
    have h1 := hx i hi
    have hlt : b < w.heap.size := by
      rcases Nat.lt_or_ge b w.heap.size with hlt | hge
      · exact hlt
      · simp [World.cell?, Array.getElem?_eq_none hge] at h1
    exact (hb.cell (p := ⟨b, o + i, none⟩) hlt).trans h1
theorem intsl_at {w : World} {v : Value} {xs : List Int} (h : IntSl w v xs) {k : Nat} (hk : k < xs.length) : ∃ b o cap, v = .slice (some ⟨b, o, none⟩) xs.length cap ∧ w.cell? ⟨b, o + k, none⟩ = some (.int .i64 (xs.getD k 0)) := by
  rcases h with ⟨_, rfl⟩ | ⟨b, o, c, rfl, hx⟩
  · simp at hk
  · exact ⟨b, o, c, rfl, hx k hk⟩
theorem intsl_len {w : World} {v : Value} {xs : List Int} (h : IntSl w v xs) : ∃ p cap, v = .slice p xs.length cap := by
  rcases h with ⟨rfl, rfl⟩ | ⟨b, o, c, rfl, hx⟩ <;> exact ⟨_, _, rfl⟩

end Go.Proofs.YtckaniemilmphaaDoor
