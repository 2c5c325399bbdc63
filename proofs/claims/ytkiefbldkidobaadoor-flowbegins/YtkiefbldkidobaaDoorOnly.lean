/- What has changed lies in some blocks, or is new. -/
import Derived.Test.YtkiefbldkidobaaDoorRep
namespace Go.Proofs.YtkiefbldkidobaaDoor
open Go.RowKit

/-- What has changed lies in A, or is new. -/
structure Only (A : Nat → Prop) (w w' : World) : Prop where
  os : w'.os = w.os
  tape : w'.tape = w.tape
  output : w'.output = w.output
  size : w.heap.size ≤ w'.heap.size
  block : ∀ b, b < w.heap.size → ¬ A b → w'.heap[b]? = w.heap[b]?
section
variable {A B : Nat → Prop} {w w' w'' : World}
theorem Only.refl : Only A w w := ⟨rfl, rfl, rfl, Nat.le_refl _, fun _ _ _ => rfl⟩
theorem Only.trans (h : Only A w w') (k : Only B w' w'') (hB : ∀ b, B b → A b ∨ w.heap.size ≤ b) : Only A w w'' :=
  ⟨k.os.trans h.os, k.tape.trans h.tape, k.output.trans h.output, Nat.le_trans h.size k.size, fun b hb ha => (k.block b (Nat.lt_of_lt_of_le hb h.size) (fun hb' => by rcases hB b hb' with h' | h'; exact ha h'; omega)).trans (h.block b hb ha)⟩
theorem Only.mono (h : Only A w w') (hAB : ∀ b, A b → B b) : Only B w w' := ⟨h.os, h.tape, h.output, h.size, fun b hb hn => h.block b hb fun ha => hn (hAB b ha)⟩
theorem Only.below {n : Nat} (h : Only A w w') (hn : n ≤ w.heap.size) (hA : ∀ b, A b → n ≤ b) : Below n w w' := ⟨h.os, h.tape, h.output, h.size, fun b hb => h.block b (by omega) fun ha => by have := hA b ha; omega⟩
theorem Only.agree (h : Only A w w') (hd : ∀ b, B b → ¬ A b) : Agree B w w' := fun b hB hb => h.block b hb (hd b hB)
theorem Below.only (h : Below w.heap.size w w') : Only A w w' := ⟨h.os, h.tape, h.output, h.size, fun b hb _ => h.block b hb⟩
theorem grownBy_only {row : Option Nat} (h : w.grownBy w' row) (hr : ∀ k, row = some k → A k) : Only A w w' := ⟨h.os, h.tape, h.output, h.size, fun b hb ha => h.block b hb fun e => ha (hr b e.symm)⟩
theorem Only.drewR (h : Only A w w') : Only A w w'.drew := ⟨h.os, h.tape, h.output, h.size, h.block⟩
theorem Blk.only {b : Nat} {cs : Array Value} {t : TypeId} (h : Blk w b cs t) (ho : Only A w w') (ha : ¬ A b) : Blk w' b cs t := by
  unfold Blk at *; rw [ho.block b (Blk.lt h) ha]; exact h
theorem ownsRow_only {base size n : Nat} {e : TypeId} {v : Value} {xs : List Value} (h : w.ownsRow base e size v n xs) (ho : Only A w w') (ha : ∀ b, v.ownBlock = some b → ¬ A b) : w'.ownsRow base e size v n xs := by
  obtain ⟨h1, h2⟩ := h
  refine ⟨h1, ?_⟩
  rcases h2 with h2 | ⟨g, cap, cur, rfl, hb, hg, h3⟩
  · exact .inl h2
  · exact .inr ⟨g, cap, cur, rfl, hb, by rw [ho.block g (Array.getElem?_eq_some_iff.1 hg).1 (ha g rfl)]; exact hg, h3⟩
theorem Own.only {α : Type} {R : Elem α} {D : Nat → Prop} {base : Nat} {e : TypeId} {v : Value} {xs : List α} (h : Own D R w base e v xs) (ho : Only A w w') (ha : ∀ b, v.ownBlock = some b → ¬ A b) (hd : ∀ b, D b → ¬ A b) : Own D R w' base e v xs := by
  obtain ⟨cc, h1, h2, h3⟩ := h
  exact ⟨cc, ownsRow_only h1 ho ha, h2, fun i hi hi' => R.keep (h3 i hi hi') (ho.agree fun b hb => hd b hb.1)⟩
end
end Go.Proofs.YtkiefbldkidobaaDoor
