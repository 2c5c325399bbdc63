/- Arguments that are conditions, atoms and outcomes, opened; and what the row's list gives. -/
import Derived.Test.YtdealgleehbhlaaDoorRepOpenW
import Derived.Test.YtdealgleehbhlaaDoorCondText
import Derived.Test.YtdealgleehbhlaaDoorCondCmp2
import Derived.Test.YtdealgleehbhlaaDoorRows
import Derived.LaidLaws
import Derived.LaidMore
import Derived.Lib.LaidTab
import Derived.Stop.LaidErr
namespace Go.Proofs.YtdealgleehbhlaaDoor
open Go.ChangeShapes Go.WideShapes Go.ChangeAt Go.RowKit

theorem int1 : Tryd.prog.cellsOf 3 = 1 := by kernel_rfl
theorem int641 : Tryd.prog.cellsOf 2 = 1 := by kernel_rfl
theorem bool1 : Tryd.prog.cellsOf 4 = 1 := by kernel_rfl
theorem atmCells : Tryd.prog.cellsOf 48 = 4 := by kernel_rfl
theorem atmsCells : Tryd.prog.cellsOf 54 = 1 := by kernel_rfl
theorem listsCells : Tryd.prog.cellsOf 22 = 1 := by kernel_rfl
theorem condCells : Tryd.prog.cellsOf 24 = 2 := by kernel_rfl
theorem outCells : Tryd.prog.cellsOf 36 = 2 := by kernel_rfl
theorem numsCells : Tryd.prog.cellsOf 34 = 1 := by kernel_rfl
theorem regsCells : Tryd.prog.cellsOf 33 = 1 := by kernel_rfl
theorem int64Bytes : Tryd.prog.bytesOf 2 = 8 := by kernel_rfl
theorem numsBytes : Tryd.prog.bytesOf 34 = 24 := by kernel_rfl
theorem outBytes : Tryd.prog.bytesOf 36 = 48 := by kernel_rfl

theorem in64_of {n : Int} (h : (Lit.int .i64 n).wf = true) : in64 n := bounds_i64 h

set_option maxRecDepth 20000 in
theorem opens_atm {H : Type} {enc : TypeId × Value → H} {W : World} {sp : Nat → Bool} {held : Bool} : Opens enc Tryd.prog W sp held 48 (AtmE.also Asz) := by
  intro m cs y h
  obtain ⟨xs, n, _, _, hl, hlen, hf⟩ := DataW.trod_struct Tryd.underlying48 h
  have h0 : DataW.trod enc Tryd.prog W 0 sp held n 3 ((cs.drop 0).take (Tryd.prog.cellsOf 3)) = xs[0]? := hf 0 _ rfl
  have h1 : DataW.trod enc Tryd.prog W 0 sp held n 3 ((cs.drop 1).take (Tryd.prog.cellsOf 3)) = xs[1]? := hf 1 _ rfl
  have h2 : DataW.trod enc Tryd.prog W 0 sp held n 2 ((cs.drop 2).take (Tryd.prog.cellsOf 2)) = xs[2]? := hf 2 _ rfl
  have h3 : DataW.trod enc Tryd.prog W 0 sp held n 4 ((cs.drop 3).take (Tryd.prog.cellsOf 4)) = xs[3]? := hf 3 _ rfl
  rw [atmCells] at hl
  match cs, hl, xs, hlen, h0, h1, h2, h3 with
  | [c0, c1, c2, c3], _, [x0, x1, x2, x3], _, h0, h1, h2, h3 =>
    simp only [int1, int641, bool1, List.drop_zero, List.drop_succ_cons, List.take_succ_cons, List.take_zero, List.getElem?_cons_zero, List.getElem?_cons_succ] at h0 h1 h2 h3
    obtain ⟨a0, e0, _, b0⟩ := DataW.trod_int Tryd.underlying3 h0
    obtain ⟨a1, e1, _, b1⟩ := DataW.trod_int Tryd.underlying3 h1
    obtain ⟨a2, e2, _, b2⟩ := DataW.trod_int Tryd.underlying2 h2
    obtain ⟨a3, e3, _⟩ := DataW.trod_bool Tryd.underlying4 h3
    simp only [List.cons.injEq, and_true] at e0 e1 e2 e3
    subst e0 e1 e2 e3
    exact ⟨⟨a0, a1, a2, a3⟩, rfl, in64_of b0, in64_of b1, in64_of b2⟩
theorem opens_lists {H : Type} {enc : TypeId × Value → H} {W : World} {sp : Nat → Bool} {held : Bool} : Opens enc Tryd.prog W sp held 22 (SlE (SlE (AtmE.also Asz))) :=
  opens_slice Tryd.underlying22 atmsCells (opens_slice Tryd.underlying54 atmCells opens_atm)

theorem lists_known {A : Nat → Prop} {w : World} {v : Value} {ls : List (List Atm)} (h : SlA A (SlE (AtmE.also Asz)) w v ls) : SlA A (SlE AtmE) w v ls ∧ ∀ l ∈ ls, ∀ a ∈ l, Asz a := by
  obtain ⟨p, cap, rfl, h0, h⟩ := h
  refine ⟨⟨p, cap, rfl, h0, fun hne => ?_⟩, fun l hl => ?_⟩
  · obtain ⟨b, o, rfl, hA, h2⟩ := h hne
    refine ⟨b, o, rfl, hA, fun i hi => ?_⟩
    obtain ⟨c, ⟨u, h3, h5⟩, h4⟩ := h2 i hi
    exact ⟨c, ⟨u, h3, h5.known.1⟩, h4⟩
  · obtain ⟨b, o, _, _, h2⟩ := h (fun e => by subst e; cases hl)
    obtain ⟨i, hi, rfl⟩ := List.getElem_of_mem hl
    obtain ⟨c, ⟨u, _, h5⟩, _⟩ := h2 i hi
    exact h5.known.2

set_option maxRecDepth 20000 in
theorem open_cond {H : Type} {enc : TypeId × Value → H} {W : World} {b0 : Nat} {r : Reach} {sp : Nat → Bool} {held : Bool} {v : Value} {d : DataW H} {p : List MemPlace}
    (hv : Value.okWide Tryd.prog W r b0 24 v) (h : DataW.Trod enc Tryd.prog W 0 sp held 24 v d p) :
    ∃ all q c ls, v = .agg #[.bool all, .slice q ls.length c] ∧ Sl (SlE AtmE) W (.slice q (ls : List (List Atm)).length c) ls ∧ ∀ l ∈ ls, ∀ a ∈ l, Asz a := by
  obtain ⟨cs, rfl, _⟩ := okWide_struct Tryd.underlying24 hv
  obtain ⟨fuel, hf⟩ := h
  obtain ⟨ys, n, _, _, hl, hlen, hfs⟩ := DataW.trod_struct Tryd.underlying24 hf
  have h0 : DataW.trod enc Tryd.prog W 0 sp held n 4 (((Value.agg cs).cells.toList.drop 0).take (Tryd.prog.cellsOf 4)) = ys[0]? := hfs 0 _ rfl
  have h1 : DataW.trod enc Tryd.prog W 0 sp held n 22 (((Value.agg cs).cells.toList.drop 1).take (Tryd.prog.cellsOf 22)) = ys[1]? := hfs 1 _ rfl
  rw [condCells] at hl
  obtain ⟨cl⟩ := cs
  simp only [Value.cells] at h0 h1 hl
  match cl, hl, ys, hlen, h0, h1 with
  | [c0, c1], _, [x0, x1], _, h0, h1 =>
    simp only [bool1, listsCells, List.drop_zero, List.drop_succ_cons, List.take_succ_cons, List.take_zero, List.getElem?_cons_zero, List.getElem?_cons_succ] at h0 h1
    obtain ⟨all, e0, _⟩ := DataW.trod_bool Tryd.underlying4 h0
    obtain ⟨ls, v1, e1, s1⟩ := opens_lists _ _ _ h1
    simp only [List.cons.injEq, and_true] at e0 e1
    subst e0 e1
    obtain ⟨s1, s2⟩ := lists_known s1
    obtain ⟨pt, ct, rfl⟩ := s1.len
    exact ⟨all, pt, ct, ls, rfl, s1, s2⟩
set_option maxRecDepth 20000 in
theorem open_atm {H : Type} {enc : TypeId × Value → H} {W : World} {b0 : Nat} {r : Reach} {sp : Nat → Bool} {held : Bool} {v : Value} {d : DataW H} {p : List MemPlace}
    (hv : Value.okWide Tryd.prog W r b0 48 v) (h : DataW.Trod enc Tryd.prog W 0 sp held 48 v d p) : ∃ a : Atm, v = a.v ∧ Asz a := by
  obtain ⟨cs, rfl, _⟩ := okWide_struct Tryd.underlying48 hv
  obtain ⟨fuel, hf⟩ := h
  obtain ⟨a, e, ha⟩ := opens_atm _ _ _ hf
  obtain ⟨cl⟩ := cs
  simp only [Value.cells] at e
  exact ⟨a, by rw [show cl = a.cells from e]; rfl, ha⟩

/-- An outcome's sizes, as the reach gives them. -/
def Ozb (o : Out) : Prop := o.regs.length * 24 ≤ reachBytes ∧ (∀ l ∈ o.regs, l.length * 8 ≤ reachBytes) ∧ o.mem.length * 8 ≤ reachBytes
theorem Ozb.osz {o : Out} (h : Ozb o) : Osz o := by
  have e : reachBytes = 140737488351232 := rfl
  obtain ⟨h1, h2, h3⟩ := h
  exact ⟨by omega, fun l hl => by have := h2 l hl; omega, by omega⟩

theorem regs_known {A : Nat → Prop} {w : World} {v : Value} {ls : List (List Int)} (h : SlA A ((SlE IntE).also fun xs => xs.length * 8 ≤ reachBytes) w v ls) : SlA A (SlE IntE) w v ls ∧ ∀ l ∈ ls, l.length * 8 ≤ reachBytes := h.known

set_option maxRecDepth 20000 in
theorem opens_out {H : Type} {enc : TypeId × Value → H} {W : World} {sp : Nat → Bool} {held : Bool} : OpensW enc Tryd.prog W sp held 36 (OutE.also Ozb) := by
  intro m cs y h hw
  obtain ⟨xs, n, _, rfl, hl, hlen, hf⟩ := DataW.trod_struct Tryd.underlying36 h
  have h0 : DataW.trod enc Tryd.prog W 0 sp held n 33 ((cs.drop 0).take (Tryd.prog.cellsOf 33)) = xs[0]? := hf 0 _ rfl
  have h1 : DataW.trod enc Tryd.prog W 0 sp held n 34 ((cs.drop 1).take (Tryd.prog.cellsOf 34)) = xs[1]? := hf 1 _ rfl
  rw [outCells] at hl
  simp only [DataW.weights, Tryd.underlying36] at hw
  match cs, hl, xs, hlen, h0, h1, hw with
  | [c0, c1], _, [x0, x1], _, h0, h1, hw =>
    simp only [numsCells, regsCells, List.drop_zero, List.drop_succ_cons, List.take_succ_cons, List.take_zero, List.getElem?_cons_zero, List.getElem?_cons_succ] at h0 h1
    simp only [List.map_cons, List.map_nil, DataW.weightsEach, List.all_append, List.all_nil, Bool.and_true, Bool.and_eq_true] at hw
    obtain ⟨r, ⟨v0, e0, s0⟩, z0⟩ := opensW_slice (R := (SlE IntE).also fun xs => xs.length * 8 ≤ reachBytes) Tryd.underlying33 numsCells numsBytes (opensW_slice Tryd.underlying34 int641 int64Bytes (opensW_int Tryd.underlying2)) _ _ _ h0 hw.1
    obtain ⟨mm, ⟨v1, e1, s1⟩, z1⟩ := opensW_slice Tryd.underlying34 int641 int64Bytes (opensW_int Tryd.underlying2) _ _ _ h1 hw.2
    simp only [List.cons.injEq, and_true] at e0 e1
    subst e0 e1
    obtain ⟨s0, zi⟩ := regs_known s0
    exact ⟨⟨r, mm⟩, ⟨_, _, rfl, s0, s1⟩, z0, zi, z1⟩
set_option maxRecDepth 20000 in
theorem open_out {H : Type} {enc : TypeId × Value → H} {W : World} {b0 : Nat} {r : Reach} {sp : Nat → Bool} {held : Bool} {v : Value} {d : DataW H} {p : List MemPlace}
    (hv : Value.okWide Tryd.prog W r b0 36 v) (h : DataW.Trod enc Tryd.prog W 0 sp held 36 v d p) (hw : (d.weights Tryd.prog 36).all (· ≤ reachBytes) = true) :
    ∃ v1 v2 o, v = .agg #[v1, v2] ∧ OutV W v1 v2 o ∧ Ozb o := by
  obtain ⟨cs, rfl, _⟩ := okWide_struct Tryd.underlying36 hv
  obtain ⟨fuel, hf⟩ := h
  obtain ⟨o, ⟨v1, v2, e, s1, s2⟩, hz⟩ := opens_out _ _ _ hf hw
  obtain ⟨cl⟩ := cs
  simp only [Value.cells] at e
  exact ⟨v1, v2, o, by rw [e], ⟨s1, s2⟩, hz⟩
set_option maxRecDepth 20000 in
theorem open_outs {H : Type} {enc : TypeId × Value → H} {W : World} {b0 : Nat} {r : Reach} {sp : Nat → Bool} {held : Bool} {v : Value} {d : DataW H} {p : List MemPlace}
    (hv : Value.okWide Tryd.prog W r b0 25 v) (h : DataW.Trod enc Tryd.prog W 0 sp held 25 v d p) (hw : (d.weights Tryd.prog 25).all (· ≤ reachBytes) = true) :
    ∃ q c os, v = .slice q (os : List Out).length c ∧ Sl OutE W (.slice q os.length c) os ∧ ∀ o ∈ os, Ozb o := by
  obtain ⟨a, len, cap, rfl⟩ := okWide_slice Tryd.underlying25 hv
  obtain ⟨fuel, hf⟩ := h
  obtain ⟨os, ⟨v, e, s⟩, _⟩ := opensW_slice Tryd.underlying25 outCells outBytes opens_out _ _ _ hf hw
  simp only [Value.cells, List.cons.injEq, and_true] at e
  subst e
  obtain ⟨s1, s2⟩ := s.known
  obtain ⟨q, c, e⟩ := s1.len
  rw [e] at s1 ⊢
  exact ⟨q, c, os, rfl, s1, s2⟩

def laid4 : List (String × DataW Unit) := [("math/bits.deBruijn32tab", Rows.laid_math_bits_deBruijn32tab), ("math/bits.deBruijn64tab", Rows.laid_math_bits_deBruijn64tab), ("internal/strconv.uint64pow10", Rows.laid_internal_strconv_uint64pow10)]
theorem tPow : (Tryd.prog.globals[0]?).map (·.type) = some 120 := by kernel_rfl
theorem cU64 : Tryd.prog.cellsOf 104 = 1 := by kernel_rfl
theorem cPow : Tryd.prog.cellsOf 120 = 20 := by kernel_rfl
theorem pow_of {W : World} (h : laidMetH Tryd.prog laid4 W) : Pow W := by
  unfold laid4 at h
  rw [MakeChecks.laidMetH_plain _ _ _ (by kernel_rfl)] at h
  exact Lib.tabIs_of_head gPow tPow Tryd.underlying120 Tryd.underlying104 cU64 cPow (by exact h.tail.tail)
theorem weights_at {H : Type} {P : Program} {ts : List TypeId} {ds : List (DataW H)} (h : (DataW.weightsEach P ts ds).all (· ≤ reachBytes) = true) {j : Nat} {t : TypeId} {d : DataW H} (ht : ts[j]? = some t) (hd : ds[j]? = some d) : (d.weights P t).all (· ≤ reachBytes) = true :=
  List.all_eq_true.2 fun n hn => List.all_eq_true.1 h n (DataW.weights_mem_each ht hd n hn)
end Go.Proofs.YtdealgleehbhlaaDoor
