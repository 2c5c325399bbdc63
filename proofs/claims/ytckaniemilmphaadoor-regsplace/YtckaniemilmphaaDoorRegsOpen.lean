/- An argument that is a file of registers, opened: four numbers of 64 bits, four of 32. -/
import Derived.Test.YtckaniemilmphaaDoorRegsBits
import Derived.ProofKit
import Derived.OpenShut
import Derived.LaidLaws
namespace Go.Proofs.YtckaniemilmphaaDoor
open Go.ChangeShapes Go.WideShapes Go.ChangeAt Go.RowKit

theorem fileCells : Tryd.prog.cellsOf 26 = 8 := by kernel_rfl
theorem cellsV : Tryd.prog.cellsOf 22 = 4 := by kernel_rfl
theorem cellsD : Tryd.prog.cellsOf 24 = 4 := by kernel_rfl
theorem cellsI : Tryd.prog.cellsOf 2 = 1 := by kernel_rfl
theorem cellsU : Tryd.prog.cellsOf 23 = 1 := by kernel_rfl

/-- Four numbers, as a function. -/
def four (a b c d : Int) : Nat → Int
  | 0 => a
  | 1 => b
  | 2 => c
  | _ => d

set_option maxRecDepth 20000 in
theorem four_cells {H : Type} {enc : TypeId × Value → H} {W : World} {base : Nat} {sp : Nat → Bool} {held : Bool} {m : Nat} {c0 c1 c2 c3 : Value} {y : DataW H × List MemPlace} {t e : TypeId} {q : IntKind}
    (ht : Tryd.prog.underlying t = some (.array 4 e)) (he : Tryd.prog.underlying e = some (.int q)) (hc : Tryd.prog.cellsOf e = 1) (h : DataW.trod enc Tryd.prog W base sp held m t [c0, c1, c2, c3] = some y) :
    ∃ a0 a1 a2 a3 : Int, (c0 = .int q a0 ∧ c1 = .int q a1 ∧ c2 = .int q a2 ∧ c3 = .int q a3) ∧ (Lit.int q a0).wf = true ∧ (Lit.int q a1).wf = true ∧ (Lit.int q a2).wf = true ∧ (Lit.int q a3).wf = true := by
  obtain ⟨xs, n, _, _, hlen, hn, hel⟩ := DataW.trod_array ht h
  rw [hc] at hel
  have h0 : DataW.trod enc Tryd.prog W base sp held n e [c0] = xs[0]? := hel 0 (by decide)
  have h1 : DataW.trod enc Tryd.prog W base sp held n e [c1] = xs[1]? := hel 1 (by decide)
  have h2 : DataW.trod enc Tryd.prog W base sp held n e [c2] = xs[2]? := hel 2 (by decide)
  have h3 : DataW.trod enc Tryd.prog W base sp held n e [c3] = xs[3]? := hel 3 (by decide)
  match xs, hn, h0, h1, h2, h3 with
  | [x0, x1, x2, x3], _, h0, h1, h2, h3 =>
    simp only [List.getElem?_cons_zero, List.getElem?_cons_succ] at h0 h1 h2 h3
    obtain ⟨a0, e0, _, b0⟩ := DataW.trod_int he h0
    obtain ⟨a1, e1, _, b1⟩ := DataW.trod_int he h1
    obtain ⟨a2, e2, _, b2⟩ := DataW.trod_int he h2
    obtain ⟨a3, e3, _, b3⟩ := DataW.trod_int he h3
    simp only [List.cons.injEq, and_true] at e0 e1 e2 e3
    exact ⟨a0, a1, a2, a3, ⟨e0, e1, e2, e3⟩, b0, b1, b2, b3⟩

set_option maxRecDepth 20000 in
theorem file_cells {H : Type} {enc : TypeId × Value → H} {W : World} {base : Nat} {sp : Nat → Bool} {held : Bool} {m : Nat} {cs : List Value} {y : DataW H × List MemPlace}
    (h : DataW.trod enc Tryd.prog W base sp held m 26 cs = some y) : ∃ v d : Nat → Int, Value.agg cs.toArray = fileV v d ∧ FileOk v d := by
  obtain ⟨xs, n, _, rfl, hl, hlen, hf⟩ := DataW.trod_struct Tryd.underlying26 h
  have h0 : DataW.trod enc Tryd.prog W base sp held n 22 ((cs.drop 0).take (Tryd.prog.cellsOf 22)) = xs[0]? := hf 0 _ rfl
  have h1 : DataW.trod enc Tryd.prog W base sp held n 24 ((cs.drop 4).take (Tryd.prog.cellsOf 24)) = xs[1]? := hf 1 _ rfl
  rw [fileCells] at hl
  match cs, hl, xs, hlen, h0, h1 with
  | [c0, c1, c2, c3, c4, c5, c6, c7], _, [x0, x1], _, h0, h1 =>
    simp only [cellsV, cellsD, List.drop_zero, List.drop_succ_cons, List.take_succ_cons, List.take_zero, List.getElem?_cons_zero, List.getElem?_cons_succ] at h0 h1
    obtain ⟨a0, a1, a2, a3, ⟨rfl, rfl, rfl, rfl⟩, b0, b1, b2, b3⟩ := four_cells Tryd.underlying22 Tryd.underlying2 cellsI h0
    obtain ⟨d0, d1, d2, d3, ⟨rfl, rfl, rfl, rfl⟩, g0, g1, g2, g3⟩ := four_cells Tryd.underlying24 Tryd.underlying23 cellsU h1
    refine ⟨four a0 a1 a2 a3, four d0 d1 d2 d3, rfl, fun k hk => ?_⟩
    have B0 := bounds_i64 b0
    have B1 := bounds_i64 b1
    have B2 := bounds_i64 b2
    have B3 := bounds_i64 b3
    have G0 := bounds_u32 g0
    have G1 := bounds_u32 g1
    have G2 := bounds_u32 g2
    have G3 := bounds_u32 g3
    match k, hk with
    | 0, _ => exact ⟨⟨B0.1, by have := B0.2; simp only [four]; omega⟩, G0.1, by have := G0.2; simp only [four]; omega⟩
    | 1, _ => exact ⟨⟨B1.1, by have := B1.2; simp only [four]; omega⟩, G1.1, by have := G1.2; simp only [four]; omega⟩
    | 2, _ => exact ⟨⟨B2.1, by have := B2.2; simp only [four]; omega⟩, G2.1, by have := G2.2; simp only [four]; omega⟩
    | 3, _ => exact ⟨⟨B3.1, by have := B3.2; simp only [four]; omega⟩, G3.1, by have := G3.2; simp only [four]; omega⟩

set_option maxRecDepth 20000 in
theorem open_file {H : Type} {enc : TypeId × Value → H} {W : World} {b0 base : Nat} {r : Reach} {sp : Nat → Bool} {held : Bool} {v : Value} {d : DataW H} {p : List MemPlace}
    (hv : Value.okWide Tryd.prog W r b0 26 v) (h : DataW.Trod enc Tryd.prog W base sp held 26 v d p) : ∃ xv xd : Nat → Int, v = fileV xv xd ∧ FileOk xv xd := by
  obtain ⟨cs, rfl, _⟩ := okWide_struct Tryd.underlying26 hv
  obtain ⟨fuel, hf⟩ := h
  obtain ⟨xv, xd, e, ok⟩ := file_cells hf
  refine ⟨xv, xd, ?_, ok⟩
  obtain ⟨cl⟩ := cs
  simpa [Value.cells] using e

theorem nat_u32 {n : Int} (h : (Lit.int .u32 n).wf = true) : ∃ x : Nat, n = (x : Int) ∧ x < 4294967296 := by
  obtain ⟨h1, h2⟩ := bounds_u32 h
  exact ⟨n.toNat, by omega, by omega⟩
theorem nat_u16 {n : Int} (h : (Lit.int .u16 n).wf = true) : ∃ x : Nat, n = (x : Int) ∧ x < 65536 := by
  obtain ⟨h1, h2⟩ := bounds_u16 h
  exact ⟨n.toNat, by omega, by omega⟩
theorem nat_u8 {n : Int} (h : (Lit.int .u8 n).wf = true) : ∃ x : Nat, n = (x : Int) ∧ x < 256 := by
  obtain ⟨h1, h2⟩ := bounds_u8 h
  exact ⟨n.toNat, by omega, by omega⟩
theorem int_i8 {n : Int} (h : (Lit.int .i8 n).wf = true) : -128 ≤ n ∧ n < 128 := by
  obtain ⟨h1, h2⟩ := bounds_i8 h
  omega
end Go.Proofs.YtckaniemilmphaaDoor
