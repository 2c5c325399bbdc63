/- The law of 'Par', where each operation gives a value that is known ahead, or a new block: what it asks, in one word. -/
import Derived.Test.YtkiefbldkidobaaDoorPar
namespace Go.Proofs.YtkiefbldkidobaaDoor
open Go.RowKit

/-- Operation i gives the i-th value; where none is named, a pointer to a block of its own, of which R holds. -/
def phiV (base : Nat) (R : World → Nat → Prop) (vs : List (Option Value)) (i : Nat) (v : Value) (w : World) : Prop :=
  match vs[i]? with
  | some (some u) => v = u
  | some none => ∃ b, v = .pointer (some ⟨b, 0, none⟩) ∧ base ≤ b ∧ R w b
  | none => True
theorem phiV_stab (base : Nat) (R : World → Nat → Prop) (vs : List (Option Value)) (hR : ∀ w w' b, R w b → Below w.heap.size w w' → R w' b) (i : Nat) (v : Value) (w w' : World) : phiV base R vs i v w → Below w.heap.size w w' → phiV base R vs i v w' := by
  unfold phiV
  intro h hb
  split at h
  · exact h
  · obtain ⟨b, h1, h2, h3⟩ := h
    exact ⟨b, h1, h2, hR _ _ _ h3 hb⟩
  · trivial

section
variable {P : Program} {ops : Array Oper} {Q : Exit → Act → World → Prop}
theorem upon_none {o : Oper} {a : Act} {K K' : Act → World → Prop} {w : World} (hK : ∀ a w, K a w → K' a w) (h : o.wp P a w K (Exit.then K (fun _ _ _ => False))) : o.wp P a w K' Q := by
  unfold Oper.wp at *
  generalize (execOp a.eval o).run P w = r at *
  cases r with
  | ok n w' =>
    cases n <;> simp only [Oper.upon] at h ⊢ <;>
      first
        | exact hK _ _ h
        | exact Calls.mono h (fun e w'' he => by cases e <;> first | exact hK _ _ he | exact he.elim | (obtain ⟨_, _, h⟩ := he; exact h.elim))
        | exact Rows.mono h (fun _ _ he => hK _ _ he)
  | halt x w' => cases x <;> simp only [Oper.upon] at h ⊢ <;> exact h.elim
/-- One operation, and what is known behind it: the walk stops there. -/
theorem wpList_stop {o : Oper} {a : Act} {w : World} (K : Act → World → Prop) (h : wpList P ops (Exit.then K (fun _ _ _ => False)) [o] a w) (hK : ∀ a' w', K a' w' → Q .normal a' w') : wpList P ops Q [o] a w := by
  simp only [wpList] at h ⊢
  split
  · rename_i hw
    simp only [hw, if_true] at h
    rcases h with h | ⟨_, h2⟩
    · exact .inl (upon_none (fun a' w' hk => hK a' w' hk) h)
    · obtain ⟨_, _, h⟩ := h2
      exact h.elim
  · rename_i hw
    simp only [hw] at h
    exact hK _ _ h
theorem wpList_store (W : World) {o : Oper} {a : Act} {w : World} (h : wpList P ops (Exit.then (fun a' w' => a' = a ∧ w' = W) (fun _ _ _ => False)) [o] a w) (hK : Q .normal a W) : wpList P ops Q [o] a w :=
  wpList_stop _ h fun a' w' h => by rw [h.1, h.2]; exact hK
end
end Go.Proofs.YtkiefbldkidobaaDoor
