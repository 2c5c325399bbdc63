/- Small laws of no program: a world that has only grown ('Ext'), and what a contract gives in a region that draws its order. -/
import Derived.WalkKit
import Derived.Handy
import Derived.Deep.QuietTactic
import Derived.BigQuiet
namespace Go.Proofs.YtkiefbldkidobaaDoor
open Go.RowKit

/-- What stood stands: cells and marks of old blocks. -/
theorem bcell {W w1 : World} (hb : Below W.heap.size W w1) : (∀ b o, b < W.heap.size → w1.cell? ⟨b, o, none⟩ = W.cell? ⟨b, o, none⟩) ∧ (∀ b o, b < W.heap.size → w1.frozen? ⟨b, o, none⟩ = W.frozen? ⟨b, o, none⟩) :=
  ⟨fun b o h => hb.cell (p := ⟨b, o, none⟩) h, fun b o h => hb.frozen (p := ⟨b, o, none⟩) h⟩

/-- One call behind another. -/
theorem Below.thru {B : Nat} {a b c : World} (h : Below B a b) (k : Below b.heap.size b c) (hB : B ≤ a.heap.size) : Below B a c :=
  h.trans (k.mono (Nat.le_trans hB h.size))

theorem below_drewN {B : Nat} {a w : World} (n : Nat) (h : Below B a w) : Below B a (w.drewN n) := ⟨h.os, h.tape, h.output, h.size, h.block⟩

/-- A world that has grown out of w. -/
structure Ext (w : World) where
  wd : World
  ok : Below w.heap.size w wd

theorem Ext.cell {w : World} (p : Ext w) (b o : Nat) (h : b < w.heap.size) : p.wd.cell? ⟨b, o, none⟩ = w.cell? ⟨b, o, none⟩ := p.ok.cell (p := ⟨b, o, none⟩) h
theorem Ext.frozen {w : World} (p : Ext w) (b o : Nat) (h : b < w.heap.size) : p.wd.frozen? ⟨b, o, none⟩ = w.frozen? ⟨b, o, none⟩ := p.ok.frozen (p := ⟨b, o, none⟩) h
theorem ext_some (w : World) : Nonempty (Ext w) := ⟨⟨w, Below.refl _ _⟩⟩

/-- A region that draws its order, whose operations only read and whose callees only lay blocks of their own: one walk, in the order of the text. -/
theorem wp_region_ext {P : Program} {id : Nat} {Q : Exit → Act → World → Prop} {a : Act} {w : World} {l : List Oper} (hm : P.follows .mixedOrders = true) (hB : Region.lexB .any l.toArray = true)
    (h : wpQuiet P l.toArray (fun w' => ∃ p : Ext w, w' = p.wd) (fun a' => ∀ w', (∃ p : Ext w, w' = p.wd) → Q .normal a' w') l a) : (Code.region id l.toArray true).wp P Q a w :=
  wp_region_quiet (C := fun w' => ∃ p : Ext w, w' = p.wd) hm hB ⟨⟨w.drew, (Below.refl _ _).drew⟩, rfl⟩ (by simpa using h)

/-- A contract, met in such a world. -/
theorem calls_ext {P : Program} {f : FuncId} {args : Array Value} {w : World} {p : Ext w} {v : Value}
    (h : Calls P f args p.wd fun e w' => e = .returned v ∧ Below p.wd.heap.size p.wd w') : Calls P f args p.wd fun e w'' => e = .returned v ∧ ∃ q : Ext w, w'' = q.wd :=
  h.mono fun _ w' ⟨he, hb⟩ => ⟨he, ⟨w', Below.thru p.ok hb (Nat.le_refl _)⟩, rfl⟩
theorem calls_ext_same {P : Program} {f : FuncId} {args : Array Value} {w : World} {p : Ext w} {v : Value}
    (h : Calls P f args p.wd fun e w' => e = .returned v ∧ w' = p.wd) : Calls P f args p.wd fun e w'' => e = .returned v ∧ ∃ q : Ext w, w'' = q.wd :=
  h.mono fun _ _ ⟨he, hb⟩ => ⟨he, p, hb⟩

/-- A world that has grown, as the laws of append say it. -/
theorem Below.grownBy {w w' : World} (h : Below w.heap.size w w') : w.grownBy w' none := ⟨h.os, h.tape, h.output, h.size, fun k hk _ => h.block k hk⟩
theorem ownsRow_below {w w' : World} {base : Nat} {e : TypeId} {size : Nat} {v : Value} {n : Nat} {xs : List Value} (h : w.ownsRow base e size v n xs) (hb : Below w.heap.size w w') : w'.ownsRow base e size v n xs :=
  h.kept (Below.grownBy hb) (by cases hv : v.ownBlock <;> simp)
/-- Behind an append onto nil: what stood stands. -/
theorem gcell {W w1 : World} (hg : W.grownBy w1 none) : ∀ b o, b < W.heap.size → w1.cell? ⟨b, o, none⟩ = W.cell? ⟨b, o, none⟩ :=
  fun b o h => World.cell?_of_block (w := W) (a := ⟨b, o, none⟩) (hg.block b h (by simp))

theorem cell_lt {w : World} {b o : Nat} {v : Value} (h : w.cell? ⟨b, o, none⟩ = some v) : b < w.heap.size := by
  rcases Nat.lt_or_ge b w.heap.size with hlt | hge
  · exact hlt
  · simp [World.cell?, Array.getElem?_eq_none hge] at h

/-- What is held through a region that draws its order: what stood at its start stands. -/
theorem keep_of {w0 w' : World} (h : Below w0.heap.size w0 w') : (∀ b o, b < w0.heap.size → w'.cell? ⟨b, o, none⟩ = w0.cell? ⟨b, o, none⟩) ∧ Below w0.heap.size w0 w' := ⟨(bcell h).1, h⟩
theorem keep_alloc {w0 w' : World} (h : Below w0.heap.size w0 w') (o : Obj) : (∀ b i, b < w0.heap.size → (w'.alloc o).cell? ⟨b, i, none⟩ = w0.cell? ⟨b, i, none⟩) ∧ Below w0.heap.size w0 (w'.alloc o) := keep_of (h.alloc h.size o)

end Go.Proofs.YtkiefbldkidobaaDoor
