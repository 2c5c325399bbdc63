/- What a row's list gives: the table of shapes lies in its block. -/
import Derived.Test.YtpmaifmokhnboaaGreatDoorInsP
import Derived.Test.YtpmaifmokhnboaaGreatDoorRows
import Derived.ProofKit
import Derived.OpenShut
import Derived.LaidLaws
import Derived.LaidMore
namespace Go.Proofs.YtpmaifmokhnboaaGreatDoor
open Go.ChangeShapes Go.WideShapes Go.ChangeAt Go.RowKit

theorem gShapes : Tryz.prog.globalNamed "cupola/ins.shapes" = some 0 := by kernel_rfl
theorem tShapes : (Tryz.prog.globals[0]?).map (·.type) = some 174 := by kernel_rfl
theorem cellsRow : Tryz.prog.cellsOf 155 = 3 := by kernel_rfl
theorem cellsInt : Tryz.prog.cellsOf 3 = 1 := by kernel_rfl
theorem cellsStr : Tryz.prog.cellsOf 9 = 1 := by kernel_rfl

set_option maxRecDepth 20000 in
theorem row_cells {enc : TypeId × Value → Unit} {W : World} {sp : Nat → Bool} {held : Bool} {m : Nat} {cs : List Value} {y : DataW Unit × List MemPlace} {s : List UInt8} {k f : Int}
    (h : DataW.trod enc Tryz.prog W 0 sp held m 155 cs = some y) (hy : y.1 = .agg [.lit (.string s), .lit (.int .i64 k), .lit (.int .i64 f)]) :
    cs = [.string ⟨s.toArray⟩, .int .i64 k, .int .i64 f] := by
  obtain ⟨xs, n, _, rfl, hl, hlen, hf⟩ := DataW.trod_struct Tryz.underlying155 h
  have h0 : DataW.trod enc Tryz.prog W 0 sp held n 9 ((cs.drop 0).take (Tryz.prog.cellsOf 9)) = xs[0]? := hf 0 _ rfl
  have h1 : DataW.trod enc Tryz.prog W 0 sp held n 3 ((cs.drop 1).take (Tryz.prog.cellsOf 3)) = xs[1]? := hf 1 _ rfl
  have h2 : DataW.trod enc Tryz.prog W 0 sp held n 3 ((cs.drop 2).take (Tryz.prog.cellsOf 3)) = xs[2]? := hf 2 _ rfl
  rw [cellsRow] at hl
  simp only [DataW.agg.injEq] at hy
  match cs, hl, xs, hlen, h0, h1, h2, hy with
  | [c0, c1, c2], _, [x0, x1, x2], _, h0, h1, h2, hy =>
    simp only [List.map_cons, List.map_nil, List.cons.injEq, and_true] at hy
    obtain ⟨y0, y1, y2⟩ := hy
    simp only [cellsInt, cellsStr, List.drop_zero, List.drop_succ_cons, List.take_succ_cons, List.take_zero, List.getElem?_cons_zero, List.getElem?_cons_succ] at h0 h1 h2
    obtain ⟨a0, e0, f0, _⟩ := DataW.trod_string Tryz.underlying9 h0
    obtain ⟨a1, e1, f1, _⟩ := DataW.trod_int Tryz.underlying3 h1
    obtain ⟨a2, e2, f2, _⟩ := DataW.trod_int Tryz.underlying3 h2
    subst f0 f1 f2
    simp only [DataW.lit.injEq, Lit.string.injEq, Lit.int.injEq, true_and] at y0 y1 y2
    subst y0 y1 y2
    simp only [List.cons.injEq, and_true] at e0 e1 e2
    subst e0 e1 e2
    rfl

set_option maxRecDepth 20000 in
theorem row_at {enc : TypeId × Value → Unit} {W : World} {sp : Nat → Bool} {held : Bool} {m : Nat} {cs : List Value} {xs : List (DataW Unit × List MemPlace)} {s : List UInt8} {k f : Int} (i : Nat)
    (h : DataW.trod enc Tryz.prog W 0 sp held m 155 ((cs.drop (i * 3)).take 3) = xs[i]?) (hx : (xs.map (·.1))[i]? = some (.agg [.lit (.string s), .lit (.int .i64 k), .lit (.int .i64 f)])) :
    cs[i * 3]? = some (.string ⟨s.toArray⟩) ∧ cs[i * 3 + 1]? = some (.int .i64 k) ∧ cs[i * 3 + 2]? = some (.int .i64 f) := by
  rw [List.getElem?_map, Option.map_eq_some_iff] at hx
  obtain ⟨y, hy, hy1⟩ := hx
  rw [hy] at h
  have e := row_cells h hy1
  have at_ : ∀ j, j < 3 → cs[i * 3 + j]? = ((cs.drop (i * 3)).take 3)[j]? := fun j hj => by
    rw [List.getElem?_take, if_pos hj, List.getElem?_drop]
  have a0 := at_ 0 (by omega)
  have a1 := at_ 1 (by omega)
  have a2 := at_ 2 (by omega)
  rw [e] at a0 a1 a2
  exact ⟨by simpa using a0, by simpa using a1, by simpa using a2⟩

set_option maxRecDepth 20000 in
theorem tab_of {W : World} (h : laidMetH Tryz.prog [("cupola/ins.shapes", Rows.laid_cupola_ins_shapes)] W) : Tab W := by
  rw [MakeChecks.laidMetH_plain _ _ _ (by kernel_rfl)] at h
  obtain ⟨ps, ⟨g0, t0, cs0, f0, p0, q0, hg0, ht0, hv0, hd0, _, _⟩, _, _⟩ := h
  obtain rfl := Option.some.inj (gShapes.symm.trans hg0)
  obtain rfl := Option.some.inj (tShapes.symm.trans ht0)
  obtain ⟨xs, m, _, hx, hlen, hn, hel⟩ := DataW.trod_array Tryz.underlying174 hd0
  rw [cellsRow] at hel
  simp only [Prod.mk.injEq] at hx
  obtain ⟨hx, _⟩ := hx
  have hx' : xs.map (·.1) = _ := (DataW.agg.inj hx).symm
  have at0 : ∀ i, W.cell? ⟨0, i, none⟩ = cs0.toList[i]? := fun i => by rw [World.var?_cell hg0 hv0 i]; simp
  have all : ∀ op : Int, 0 ≤ op → op < 15 → W.cell? ⟨0, op.toNat * 3, none⟩ = some (.string (nameS op)) ∧ W.cell? ⟨0, op.toNat * 3 + 1, none⟩ = some (.int .i64 (kindZ op)) ∧ W.cell? ⟨0, op.toNat * 3 + 2, none⟩ = some (.int .i64 (fieldsZ op)) := by
    intro op h0 h1
    rw [at0, at0, at0]
    have hc : op = 0 ∨ op = 1 ∨ op = 2 ∨ op = 3 ∨ op = 4 ∨ op = 5 ∨ op = 6 ∨ op = 7 ∨ op = 8 ∨ op = 9 ∨ op = 10 ∨ op = 11 ∨ op = 12 ∨ op = 13 ∨ op = 14 := by omega
    rcases hc with h | h | h | h | h | h | h | h | h | h | h | h | h | h | h
    all_goals
      subst h
      exact row_at _ (hel _ (by decide)) (by rw [hx']; rfl)
  refine ⟨?_, fun op h0 h1 => (all op h0 h1).1, fun op h0 h1 => (all op h0 h1).2.1, fun op h0 h1 => (all op h0 h1).2.2⟩
  exact cell_lt (all 0 (by decide) (by decide)).1
end Go.Proofs.YtpmaifmokhnboaaGreatDoor
