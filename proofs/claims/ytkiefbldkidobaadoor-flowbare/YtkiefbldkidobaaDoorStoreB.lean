/- Laws of no program: a whole struct stored into a block that is known whole. -/
import Derived.Test.YtkiefbldkidobaaDoorOnly
import Derived.Laws.Tables
namespace Go.Proofs.YtkiefbldkidobaaDoor
open Go.RowKit

theorem setRow_blk {w : World} {g : Nat} {old cells : Array Value} {t : TypeId} (h : Blk w g old t) : Blk (w.setRow g cells) g cells t ∧ Only (fun k => k = g) w (w.setRow g cells) ∧ (w.setRow g cells).heap.size = w.heap.size := by
  have hl := h.lt
  refine ⟨?_, ?_, ?_⟩
  · have := setRow_heap w g old cells t (0, 0) h
    exact this
  · refine ⟨rfl, rfl, rfl, ?_, fun b _ hb => ?_⟩
    · simp [World.setRow]
    · simp [World.setRow, Array.getElem?_modify, Ne.symm hb]
  · simp [World.setRow]
section
variable {P : Program} {ops : Array Oper} {rest : List Oper} {o : Oper} {a : Act} {w : World} {Q : Exit → Act → World → Prop}
theorem wpList_storeB (hgd : o.guard = none) (ty : TypeId) (x y : Operand) (ho : o.op = .store ty x y) (g : Nat) (cells old : Array Value) (t : TypeId) (hx : a.eval x = .pointer (some ⟨g, 0, none⟩)) (hy : a.eval y = .agg cells)
    (hg : Blk w g old t) (hi : (P.info? ty).map (·.size) = some cells.size) (hold : old.size = cells.size) (h1 : cells.all (·.oneCell') = true)
    (h : ∀ w', Blk w' g cells t → Only (fun k => k = g) w w' → w'.heap.size = w.heap.size → wpList P ops Q rest (a.put o.dst undef) w') : wpList P ops Q (o :: rest) a w := by
  obtain ⟨k1, k2, k3⟩ := setRow_blk (cells := cells) hg
  exact wpList_plain hgd fun _ hK => wp_store_row ty x y ho g cells hx hy t old hg hi hold h1 (hK _ _ (h _ k1 k2 k3))
end
end Go.Proofs.YtkiefbldkidobaaDoor
