/- What the row's list gives: the variables that the calls read; and an instruction opened, with its numbers' bounds. -/
import Derived.Test.YtjmcplbhjihepaaDoorTextLib
import Derived.Test.YtjmcplbhjihepaaDoorInsTab
import Derived.Test.YtjmcplbhjihepaaDoorInsOpen
import Derived.Stop.LaidErr
import Derived.Lib.LaidTab
namespace Go.Proofs.YtjmcplbhjihepaaDoor
open Go.ChangeShapes Go.WideShapes Go.ChangeAt Go.RowKit

def laid3 : List (String × DataW Unit) := [("cupola/ins.shapes", Rows.laid_cupola_ins_shapes), ("math/bits.deBruijn32tab", Rows.laid_math_bits_deBruijn32tab), ("math/bits.deBruijn64tab", Rows.laid_math_bits_deBruijn64tab), ("internal/strconv.uint64pow10", Rows.laid_internal_strconv_uint64pow10), ("strconv.ErrRange", Rows.laid_strconv_ErrRange), ("strconv.ErrSyntax", Rows.laid_strconv_ErrSyntax)]

theorem gES : Tryd.prog.globalNamed "strconv.ErrSyntax" = some 2 := by kernel_rfl
theorem gER : Tryd.prog.globalNamed "strconv.ErrRange" = some 3 := by kernel_rfl
theorem tES : (Tryd.prog.globals[2]?).map (·.type) = some 62 := by kernel_rfl
theorem tER : (Tryd.prog.globals[3]?).map (·.type) = some 62 := by kernel_rfl
theorem tPow : (Tryd.prog.globals[4]?).map (·.type) = some 123 := by kernel_rfl
theorem cU64 : Tryd.prog.cellsOf 102 = 1 := by kernel_rfl
theorem cPow : Tryd.prog.cellsOf 123 = 20 := by kernel_rfl
theorem cES : Tryd.prog.cellsOf 128 = 1 := by kernel_rfl
theorem starES : "*" ++ "errors.errorString" = "*errors.errorString" := by decide
theorem rowES (u : TypeId) (h : Tryd.prog.typeName? 3 u = some "*errors.errorString") : u = 126 :=
  typeName_ptr_named (nm := "errors.errorString") (by rw [starES]; kernel_rfl) (by kernel_rfl) (by decide) u (by rw [starES]; exact h)

theorem tab_of_head {W : World} {r : List (String × DataW Unit)} (h : laidMet Tryd.prog (("cupola/ins.shapes", Rows.laid_cupola_ins_shapes) :: r) W) : laidMet Tryd.prog [("cupola/ins.shapes", Rows.laid_cupola_ins_shapes)] W := by
  obtain ⟨ps, ⟨g0, t0, cs0, f0, p0, q0, hg0, ht0, hv0, hd0, _, e0⟩, hnd, hrows⟩ := h
  subst e0
  refine ⟨MemPlace.row ⟨g0, 0, none⟩ cs0.size ++ p0 ++ [], ⟨g0, t0, cs0, f0, p0, [], hg0, ht0, hv0, hd0, rfl, rfl⟩, ?_, fun b off hm => hrows b off ?_⟩
  · rw [List.append_nil]; exact (List.nodup_append.1 hnd).1
  · rw [List.append_nil] at hm; exact List.mem_append_left _ hm

theorem env_of {W : World} (h : laidMetH Tryd.prog laid3 W) : Env W := by
  unfold laid3 at h
  rw [MakeChecks.laidMetH_plain _ _ _ (by kernel_rfl)] at h
  have hT : Tab W := tab_of (by rw [MakeChecks.laidMetH_plain _ _ _ (by kernel_rfl)]; exact tab_of_head h)
  have hp : Lib.TabIs Tryd.prog W "internal/strconv.uint64pow10" .u64 Lib.pow10Tab := Lib.tabIs_of_head gPow tPow Tryd.underlying123 Tryd.underlying102 cU64 cPow (by exact h.tail.tail.tail)
  obtain ⟨a1, s1, hv1, -, -, -⟩ := laid_sentinel h.tail.tail.tail.tail gER tER Tryd.underlying62 rowES Tryd.underlying126 Tryd.underlying128 rfl rfl Tryd.underlying9 cES cellsStr
  obtain ⟨a2, s2, hv2, -, -, -⟩ := laid_sentinel h.tail.tail.tail.tail.tail gES tES Tryd.underlying62 rowES Tryd.underlying126 Tryd.underlying128 rfl rfl Tryd.underlying9 cES cellsStr
  exact ⟨hT, hp, ⟨_, _, by have h0 := World.var?_cell gES hv2 0; simpa using h0⟩, ⟨_, _, by have h0 := World.var?_cell gER hv1 0; simpa using h0⟩⟩

set_option maxRecDepth 20000 in
theorem ins_cellsb {H : Type} {enc : TypeId × Value → H} {W : World} {base : Nat} {sp : Nat → Bool} {held : Bool} {m : Nat} {cs : List Value} {y : DataW H × List MemPlace}
    (h : DataW.trod enc Tryd.prog W base sp held m 23 cs = some y) : ∃ op d a b l i : Int, cs = [.int .i64 op, .int .i64 d, .int .i64 a, .int .i64 b, .int .i64 l, .int .i64 i] ∧ ∀ k, in64 (pick5 d a b l i k) := by
  obtain ⟨xs, n, _, rfl, hl, hlen, hf⟩ := DataW.trod_struct Tryd.underlying23 h
  have h0 : DataW.trod enc Tryd.prog W base sp held n 3 ((cs.drop 0).take (Tryd.prog.cellsOf 3)) = xs[0]? := hf 0 _ rfl
  have h1 : DataW.trod enc Tryd.prog W base sp held n 3 ((cs.drop 1).take (Tryd.prog.cellsOf 3)) = xs[1]? := hf 1 _ rfl
  have h2 : DataW.trod enc Tryd.prog W base sp held n 3 ((cs.drop 2).take (Tryd.prog.cellsOf 3)) = xs[2]? := hf 2 _ rfl
  have h3 : DataW.trod enc Tryd.prog W base sp held n 3 ((cs.drop 3).take (Tryd.prog.cellsOf 3)) = xs[3]? := hf 3 _ rfl
  have h4 : DataW.trod enc Tryd.prog W base sp held n 3 ((cs.drop 4).take (Tryd.prog.cellsOf 3)) = xs[4]? := hf 4 _ rfl
  have h5 : DataW.trod enc Tryd.prog W base sp held n 2 ((cs.drop 5).take (Tryd.prog.cellsOf 2)) = xs[5]? := hf 5 _ rfl
  rw [insCells] at hl
  match cs, hl, xs, hlen, h0, h1, h2, h3, h4, h5 with
  | [c0, c1, c2, c3, c4, c5], _, [x0, x1, x2, x3, x4, x5], _, h0, h1, h2, h3, h4, h5 =>
    simp only [int1, int641, List.drop_zero, List.drop_succ_cons, List.take_succ_cons, List.take_zero, List.getElem?_cons_zero, List.getElem?_cons_succ] at h0 h1 h2 h3 h4 h5
    obtain ⟨a0, e0, _, _⟩ := DataW.trod_int Tryd.underlying3 h0
    obtain ⟨a1, e1, _, b1⟩ := DataW.trod_int Tryd.underlying3 h1
    obtain ⟨a2, e2, _, b2⟩ := DataW.trod_int Tryd.underlying3 h2
    obtain ⟨a3, e3, _, b3⟩ := DataW.trod_int Tryd.underlying3 h3
    obtain ⟨a4, e4, _, b4⟩ := DataW.trod_int Tryd.underlying3 h4
    obtain ⟨a5, e5, _, b5⟩ := DataW.trod_int Tryd.underlying2 h5
    simp only [List.cons.injEq, and_true] at e0 e1 e2 e3 e4 e5
    subst e0 e1 e2 e3 e4 e5
    exact ⟨_, _, _, _, _, _, rfl, fun k => by unfold pick5; split; exact bounds_i64 b1; exact bounds_i64 b2; exact bounds_i64 b3; exact bounds_i64 b4; exact bounds_i64 b5⟩
set_option maxRecDepth 20000 in
theorem open_insb {H : Type} {enc : TypeId × Value → H} {W : World} {b0 base : Nat} {r : Reach} {sp : Nat → Bool} {held : Bool} {v : Value} {d : DataW H} {p : List MemPlace}
    (hv : Value.okWide Tryd.prog W r b0 23 v) (h : DataW.Trod enc Tryd.prog W base sp held 23 v d p) :
    ∃ op d a b l i : Int, v = .agg #[.int .i64 op, .int .i64 d, .int .i64 a, .int .i64 b, .int .i64 l, .int .i64 i] ∧ ∀ k, in64 (pick5 d a b l i k) := by
  obtain ⟨cs, rfl, _⟩ := okWide_struct Tryd.underlying23 hv
  obtain ⟨fuel, hf⟩ := h
  obtain ⟨op, d, a, b, l, i, e, hin⟩ := ins_cellsb hf
  refine ⟨op, d, a, b, l, i, ?_, hin⟩
  obtain ⟨cl⟩ := cs
  simp only [Value.cells] at e
  rw [e]
end Go.Proofs.YtjmcplbhjihepaaDoor
