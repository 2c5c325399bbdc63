/- An argument of type api.Test, opened. -/
import Derived.Test.YtpmaifmokhnboaaGreatDoorRepOpen
import Derived.Test.YtpmaifmokhnboaaGreatDoorInsOpen
namespace Go.Proofs.YtpmaifmokhnboaaGreatDoor
set_option maxRecDepth 20000
open Go.ChangeShapes Go.WideShapes Go.ChangeAt Go.RowKit

theorem testCells : Tryz.prog.cellsOf 63 = 2 := by kernel_rfl
theorem numsCells : Tryz.prog.cellsOf 60 = 1 := by kernel_rfl
theorem thrsCells : Tryz.prog.cellsOf 61 = 1 := by kernel_rfl
theorem thrCells : Tryz.prog.cellsOf 85 = 1 := by kernel_rfl

theorem opens_ins {H : Type} {enc : TypeId × Value → H} {W : World} {sp : Nat → Bool} {held : Bool} : Opens enc Tryz.prog W sp held 84 InsE := by
  intro m cs y h
  obtain ⟨op, d, a, b, l, i, e⟩ := ins_cells h
  exact ⟨⟨op, d, a, b, l, i⟩, e⟩
theorem opens_nums {H : Type} {enc : TypeId × Value → H} {W : World} {sp : Nat → Bool} {held : Bool} : Opens enc Tryz.prog W sp held 60 (SlE IntE) :=
  opens_slice Tryz.underlying60 int641 (opens_int Tryz.underlying2)
theorem opens_thrs {H : Type} {enc : TypeId × Value → H} {W : World} {sp : Nat → Bool} {held : Bool} : Opens enc Tryz.prog W sp held 61 (SlE ThrE) :=
  opens_slice Tryz.underlying61 thrCells (opens_slice Tryz.underlying85 insCells opens_ins)


theorem open_test {H : Type} {enc : TypeId × Value → H} {W : World} {b0 : Nat} {r : Reach} {sp : Nat → Bool} {held : Bool} {v : Value} {d : DataW H} {p : List MemPlace}
    (hv : Value.okWide Tryz.prog W r b0 63 v) (h : DataW.Trod enc Tryz.prog W 0 sp held 63 v d p) :
    ∃ pi ci pt ct xs ts, v = .agg #[.slice pi xs.length ci, .slice pt ts.length ct] ∧ Sl IntE W (.slice pi (xs : List Int).length ci) xs ∧ Sl ThrE W (.slice pt (ts : List (List Ins)).length ct) ts := by
  obtain ⟨cs, rfl, _⟩ := okWide_struct Tryz.underlying63 hv
  obtain ⟨fuel, hf⟩ := h
  obtain ⟨ys, n, _, _, hl, hlen, hfs⟩ := DataW.trod_struct Tryz.underlying63 hf
  have h0 : DataW.trod enc Tryz.prog W 0 sp held n 60 (((Value.agg cs).cells.toList.drop 0).take (Tryz.prog.cellsOf 60)) = ys[0]? := hfs 0 _ rfl
  have h1 : DataW.trod enc Tryz.prog W 0 sp held n 61 (((Value.agg cs).cells.toList.drop 1).take (Tryz.prog.cellsOf 61)) = ys[1]? := hfs 1 _ rfl
  rw [testCells] at hl
  obtain ⟨cl⟩ := cs
  simp only [Value.cells] at h0 h1 hl
  match cl, hl, ys, hlen, h0, h1 with
  | [c0, c1], _, [x0, x1], _, h0, h1 =>
    simp only [numsCells, thrsCells, List.drop_zero, List.drop_succ_cons, List.take_succ_cons, List.take_zero, List.getElem?_cons_zero, List.getElem?_cons_succ] at h0 h1
    obtain ⟨xs, v0, e0, s0⟩ := opens_nums _ _ _ h0
    obtain ⟨ts, v1, e1, s1⟩ := opens_thrs _ _ _ h1
    simp only [List.cons.injEq, and_true] at e0 e1
    subst e0 e1
    obtain ⟨pi, ci, rfl⟩ := s0.len
    obtain ⟨pt, ct, rfl⟩ := s1.len
    exact ⟨pi, ci, pt, ct, xs, ts, rfl, s0, s1⟩
end Go.Proofs.YtpmaifmokhnboaaGreatDoor
