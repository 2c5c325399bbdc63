/- A block that holds a file of registers, or an instruction. -/
import Derived.Test.YtkiefbldkidobaaDoorRegsRep
import Derived.Test.YtkiefbldkidobaaDoorRep
namespace Go.Proofs.YtkiefbldkidobaaDoor
open Go.RowKit

/-- A block that holds a file; one that holds an instruction. -/
def FileAt (w : World) (b : Nat) (v d : Nat → Int) (t : TypeId) : Prop := Blk w b #[.int .i64 (v 0), .int .i64 (v 1), .int .i64 (v 2), .int .i64 (v 3), .int .u32 (d 0), .int .u32 (d 1), .int .u32 (d 2), .int .u32 (d 3)] t
def InsB (w : World) (b : Nat) (op xd xa xb l i : Int) : Prop := Blk w b #[.int .i64 op, .int .i64 xd, .int .i64 xa, .int .i64 xb, .int .i64 l, .int .i64 i] 51
theorem FileAt.keep {w w' : World} {b : Nat} {v d : Nat → Int} {t : TypeId} (h : FileAt w b v d t) (hb : Below w.heap.size w w') : FileAt w' b v d t := Blk.keep h hb
theorem InsB.keep {w w' : World} {b : Nat} {op xd xa xb l i : Int} (h : InsB w b op xd xa xb l i) (hb : Below w.heap.size w w') : InsB w' b op xd xa xb l i := Blk.keep h hb
theorem FileAt.lt {w : World} {b : Nat} {v d : Nat → Int} {t : TypeId} (h : FileAt w b v d t) : b < w.heap.size := Blk.lt h
theorem InsB.lt {w : World} {b : Nat} {op xd xa xb l i : Int} (h : InsB w b op xd xa xb l i) : b < w.heap.size := Blk.lt h
theorem FileAt.cells {w : World} {b : Nat} {v d : Nat → Int} {t : TypeId} (h : FileAt w b v d t) : (w.cell? ⟨b, 0, none⟩ = some (.int .i64 (v 0)) ∧ w.cell? ⟨b, 1, none⟩ = some (.int .i64 (v 1)) ∧ w.cell? ⟨b, 2, none⟩ = some (.int .i64 (v 2)) ∧ w.cell? ⟨b, 3, none⟩ = some (.int .i64 (v 3))) ∧
    w.cell? ⟨b, 4, none⟩ = some (.int .u32 (d 0)) ∧ w.cell? ⟨b, 5, none⟩ = some (.int .u32 (d 1)) ∧ w.cell? ⟨b, 6, none⟩ = some (.int .u32 (d 2)) ∧ w.cell? ⟨b, 7, none⟩ = some (.int .u32 (d 3)) := by
  have k := fun i => Blk.cell h i
  exact ⟨⟨(k 0).trans rfl, (k 1).trans rfl, (k 2).trans rfl, (k 3).trans rfl⟩, (k 4).trans rfl, (k 5).trans rfl, (k 6).trans rfl, (k 7).trans rfl⟩
theorem InsB.cells {w : World} {b : Nat} {op xd xa xb l i : Int} (h : InsB w b op xd xa xb l i) : w.cell? ⟨b, 0, none⟩ = some (.int .i64 op) ∧ w.cell? ⟨b, 1, none⟩ = some (.int .i64 xd) ∧ w.cell? ⟨b, 2, none⟩ = some (.int .i64 xa) ∧
    w.cell? ⟨b, 3, none⟩ = some (.int .i64 xb) ∧ w.cell? ⟨b, 4, none⟩ = some (.int .i64 l) ∧ w.cell? ⟨b, 5, none⟩ = some (.int .i64 i) := by
  have k := fun i => Blk.cell h i
  exact ⟨(k 0).trans rfl, (k 1).trans rfl, (k 2).trans rfl, (k 3).trans rfl, (k 4).trans rfl, (k 5).trans rfl⟩

theorem FileAt.frozen {w : World} {b : Nat} {v d : Nat → Int} {t : TypeId} (h : FileAt w b v d t) : (w.frozen? ⟨b, 0, none⟩ = false ∧ w.frozen? ⟨b, 1, none⟩ = false ∧ w.frozen? ⟨b, 2, none⟩ = false ∧ w.frozen? ⟨b, 3, none⟩ = false) ∧
    w.frozen? ⟨b, 4, none⟩ = false ∧ w.frozen? ⟨b, 5, none⟩ = false ∧ w.frozen? ⟨b, 6, none⟩ = false ∧ w.frozen? ⟨b, 7, none⟩ = false :=
  ⟨⟨Blk.frozen h 0, Blk.frozen h 1, Blk.frozen h 2, Blk.frozen h 3⟩, Blk.frozen h 4, Blk.frozen h 5, Blk.frozen h 6, Blk.frozen h 7⟩
/-- A whole file written, cell by cell. -/
def put8 (w : World) (b : Nat) (v d : Nat → Int) : World := (((((((w.setCell ⟨b, 0, none⟩ (.int .i64 (v 0))).setCell ⟨b, 1, none⟩ (.int .i64 (v 1))).setCell ⟨b, 2, none⟩ (.int .i64 (v 2))).setCell ⟨b, 3, none⟩ (.int .i64 (v 3))).setCell ⟨b, 4, none⟩ (.int .u32 (d 0))).setCell ⟨b, 5, none⟩ (.int .u32 (d 1))).setCell ⟨b, 6, none⟩ (.int .u32 (d 2))).setCell ⟨b, 7, none⟩ (.int .u32 (d 3))
theorem FileAt.put {w : World} {b : Nat} {v d v' d' : Nat → Int} {t : TypeId} (h : FileAt w b v d t) : FileAt (put8 w b v' d') b v' d' t := by
  have k := Blk.set (i := 7) (Blk.set (i := 6) (Blk.set (i := 5) (Blk.set (i := 4) (Blk.set (i := 3) (Blk.set (i := 2) (Blk.set (i := 1) (Blk.set (i := 0) h (.int .i64 (v' 0))) (.int .i64 (v' 1))) (.int .i64 (v' 2))) (.int .i64 (v' 3))) (.int .u32 (d' 0))) (.int .u32 (d' 1))) (.int .u32 (d' 2))) (.int .u32 (d' 3))
  simp only [List.setIfInBounds_toArray, List.set] at k
  exact k
theorem below_setC {w : World} {b i : Nat} {B : Nat} {a : World} (h : Below B a w) (hB : B ≤ b) (v : Value) : Below B a (w.setCell ⟨b, i, none⟩ v) :=
  ⟨h.os, h.tape, h.output, Nat.le_trans h.size (by simp [World.setCell]), fun k hk => (Below.heap_setCell _ _ _ _ (by simp; omega)).trans (h.block k hk)⟩
theorem below_put8 {w : World} {b : Nat} {B : Nat} {a : World} (h : Below B a w) (hB : B ≤ b) (v d : Nat → Int) : Below B a (put8 w b v d) :=
  below_setC (below_setC (below_setC (below_setC (below_setC (below_setC (below_setC (below_setC h hB _) hB _) hB _) hB _) hB _) hB _) hB _) hB _

theorem FileAt.at {w : World} {b : Nat} {v d : Nat → Int} {t : TypeId} (h : FileAt w b v d t) {k : Nat} (hk : k < 4) : w.cell? ⟨b, k, none⟩ = some (.int .i64 (v k)) ∧ w.cell? ⟨b, 4 + k, none⟩ = some (.int .u32 (d k)) := by
  obtain ⟨⟨c0, c1, c2, c3⟩, c4, c5, c6, c7⟩ := h.cells
  match k, hk with
  | 0, _ => exact ⟨c0, c4⟩
  | 1, _ => exact ⟨c1, c5⟩
  | 2, _ => exact ⟨c2, c6⟩
  | 3, _ => exact ⟨c3, c7⟩
theorem FileAt.new {w : World} {v d : Nat → Int} {t : TypeId} : FileAt (w.alloc (.cells #[.int .i64 (v 0), .int .i64 (v 1), .int .i64 (v 2), .int .i64 (v 3), .int .u32 (d 0), .int .u32 (d 1), .int .u32 (d 2), .int .u32 (d 3)] t)) w.heap.size v d t := Blk.new
theorem InsB.new {w : World} {op xd xa xb l i : Int} : InsB (w.alloc (.cells #[.int .i64 op, .int .i64 xd, .int .i64 xa, .int .i64 xb, .int .i64 l, .int .i64 i] 51)) w.heap.size op xd xa xb l i := Blk.new
theorem below_new (w : World) (o : Obj) : Below w.heap.size w (w.alloc o) := (Below.refl _ _).alloc (Nat.le_refl _) o
end Go.Proofs.YtkiefbldkidobaaDoor
