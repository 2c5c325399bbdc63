/- An argument of type api.Test, opened. -/
import Derived.Test.YtpmaifmokhnboaaDoorRepOpen
import Derived.Test.YtpmaifmokhnboaaDoorInsOpen
namespace Go.Proofs.YtpmaifmokhnboaaDoor
set_option maxRecDepth 20000
open Go.ChangeShapes Go.WideShapes Go.ChangeAt Go.RowKit

theorem testCells : Tryd.prog.cellsOf 25 = 2 := by kernel_rfl
theorem numsCells : Tryd.prog.cellsOf 22 = 1 := by kernel_rfl
theorem thrsCells : Tryd.prog.cellsOf 23 = 1 := by kernel_rfl
theorem thrCells : Tryd.prog.cellsOf 46 = 1 := by kernel_rfl

theorem opens_ins {H : Type} {enc : TypeId × Value → H} {W : World} {sp : Nat → Bool} {held : Bool} : Opens enc Tryd.prog W sp held 48 InsE := by
  intro m cs y h
  obtain ⟨op, d, a, b, l, i, e⟩ := ins_cells h
  exact ⟨⟨op, d, a, b, l, i⟩, e⟩
theorem opens_nums {H : Type} {enc : TypeId × Value → H} {W : World} {sp : Nat → Bool} {held : Bool} : Opens enc Tryd.prog W sp held 22 (SlE IntE) :=
  opens_slice Tryd.underlying22 int641 (opens_int Tryd.underlying2)
theorem opens_thrs {H : Type} {enc : TypeId × Value → H} {W : World} {sp : Nat → Bool} {held : Bool} : Opens enc Tryd.prog W sp held 23 (SlE ThrE) :=
  opens_slice Tryd.underlying23 thrCells (opens_slice Tryd.underlying46 insCells opens_ins)


theorem open_test {H : Type} {enc : TypeId × Value → H} {W : World} {b0 : Nat} {r : Reach} {sp : Nat → Bool} {held : Bool} {v : Value} {d : DataW H} {p : List MemPlace}
    (hv : Value.okWide Tryd.prog W r b0 25 v) (h : DataW.Trod enc Tryd.prog W 0 sp held 25 v d p) :
    ∃ pi ci pt ct xs ts, v = .agg #[.slice pi xs.length ci, .slice pt ts.length ct] ∧ Sl IntE W (.slice pi (xs : List Int).length ci) xs ∧ Sl ThrE W (.slice pt (ts : List (List Ins)).length ct) ts := by
  obtain ⟨cs, rfl, _⟩ := okWide_struct Tryd.underlying25 hv
  obtain ⟨fuel, hf⟩ := h
  obtain ⟨ys, n, _, _, hl, hlen, hfs⟩ := DataW.trod_struct Tryd.underlying25 hf
  have h0 : DataW.trod enc Tryd.prog W 0 sp held n 22 (((Value.agg cs).cells.toList.drop 0).take (Tryd.prog.cellsOf 22)) = ys[0]? := hfs 0 _ rfl
  have h1 : DataW.trod enc Tryd.prog W 0 sp held n 23 (((Value.agg cs).cells.toList.drop 1).take (Tryd.prog.cellsOf 23)) = ys[1]? := hfs 1 _ rfl
  rw [testCells] at hl
  obtain ⟨cl⟩ := cs
  simp only [Value.cells] at h0 h1 hl
  match cl, hl, ys, hlen, h0, h1 with
  | [c0, c1], _, [x0, x1], _, h0, h1 =>
    simp only [numsCells, thrsCells, List.drop_zero, List.drop_succ_cons, List.take_succ_cons, List.take_zero, List.getElem?_cons_zero, List.getElem?_cons_succ] at h0 h1
    obtain ⟨xs, v0, e0, s0⟩ := opens_nums _ _ _ h0
    obtain ⟨ts, v1, e1, s1⟩ := opens_thrs _ _ _ h1
    simp only [List.cons.injEq, and_true] at e0 e1
    subst e0 e1
    obtain ⟨pi, ci, rfl⟩ := s0.len
    obtain ⟨pt, ct, rfl⟩ := s1.len
    exact ⟨pi, ci, pt, ct, xs, ts, rfl, s0, s1⟩
end Go.Proofs.YtpmaifmokhnboaaDoor
