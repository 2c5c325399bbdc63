/- Arguments that are events, or traces, opened. -/
import Derived.Test.YtcalinfdckklfaaGreatDoorPk15
import Derived.Test.YtcalinfdckklfaaGreatDoorPk48
namespace Go.Proofs.YtcalinfdckklfaaGreatDoor
set_option maxRecDepth 20000
open Go.ChangeShapes Go.WideShapes Go.ChangeAt Go.RowKit

theorem evCells : Tryz.prog.cellsOf 52 = 7 := by kernel_rfl
/-- Events whose numbers are of 64 bits. -/
def InE (x : Ev) : Prop := InZ x.th ∧ InZ x.kd ∧ InZ x.lc ∧ InZ x.vl
def EvW : Elem Ev where
  size := 7
  pos := by decide
  cs := fun _ _ x c => c = x.cells ∧ InE x
  len := fun h => by rw [h.1]; rfl
  one := fun h u hu => by rw [h.1] at hu; simp [Ev.cells] at hu; rcases hu with rfl | rfl | rfl | rfl | rfl | rfl | rfl <;> rfl
  keep := fun h _ => h
  mono := fun _ h => h
  lt := fun h => h
theorem sl_evw {w : World} {v : Value} {xs : List Ev} (h : Sl EvW w v xs) : Sl EvE w v xs ∧ ∀ x ∈ xs, InE x := by
  obtain ⟨p, cap, e, h0, h1⟩ := h
  refine ⟨⟨p, cap, e, h0, fun hne => ?_⟩, fun x hx => ?_⟩
  · obtain ⟨b, o, h2, h3, h4⟩ := h1 hne
    exact ⟨b, o, h2, h3, fun i hi => by obtain ⟨c, h5, h6⟩ := h4 i hi; exact ⟨c, h5.1, h6⟩⟩
  · obtain ⟨b, o, h2, h3, h4⟩ := h1 (List.ne_nil_of_mem hx)
    obtain ⟨i, hi, rfl⟩ := List.getElem_of_mem hx
    obtain ⟨c, h5, h6⟩ := h4 i hi
    exact h5.2
theorem opens_evw {H : Type} {enc : TypeId × Value → H} {W : World} {sp : Nat → Bool} {held : Bool} : Opens enc Tryz.prog W sp held 52 EvW := by
  intro m cs y h
  obtain ⟨xs, n, _, rfl, hl, hlen, hf⟩ := DataW.trod_struct Tryz.underlying52 h
  have h0 : DataW.trod enc Tryz.prog W 0 sp held n 3 ((cs.drop 0).take (Tryz.prog.cellsOf 3)) = xs[0]? := hf 0 _ rfl
  have h1 : DataW.trod enc Tryz.prog W 0 sp held n 3 ((cs.drop 1).take (Tryz.prog.cellsOf 3)) = xs[1]? := hf 1 _ rfl
  have h2 : DataW.trod enc Tryz.prog W 0 sp held n 3 ((cs.drop 2).take (Tryz.prog.cellsOf 3)) = xs[2]? := hf 2 _ rfl
  have h3 : DataW.trod enc Tryz.prog W 0 sp held n 2 ((cs.drop 3).take (Tryz.prog.cellsOf 2)) = xs[3]? := hf 3 _ rfl
  have h4 : DataW.trod enc Tryz.prog W 0 sp held n 4 ((cs.drop 4).take (Tryz.prog.cellsOf 4)) = xs[4]? := hf 4 _ rfl
  have h5 : DataW.trod enc Tryz.prog W 0 sp held n 4 ((cs.drop 5).take (Tryz.prog.cellsOf 4)) = xs[5]? := hf 5 _ rfl
  have h6 : DataW.trod enc Tryz.prog W 0 sp held n 4 ((cs.drop 6).take (Tryz.prog.cellsOf 4)) = xs[6]? := hf 6 _ rfl
  rw [evCells] at hl
  match cs, hl, xs, hlen, h0, h1, h2, h3, h4, h5, h6 with
  | [c0, c1, c2, c3, c4, c5, c6], _, [x0, x1, x2, x3, x4, x5, x6], _, h0, h1, h2, h3, h4, h5, h6 =>
    simp only [int1, int641, boolCells, List.drop_zero, List.drop_succ_cons, List.take_succ_cons, List.take_zero, List.getElem?_cons_zero, List.getElem?_cons_succ] at h0 h1 h2 h3 h4 h5 h6
    obtain ⟨a0, e0, _, b0⟩ := DataW.trod_int Tryz.underlying3 h0
    obtain ⟨a1, e1, _, b1⟩ := DataW.trod_int Tryz.underlying3 h1
    obtain ⟨a2, e2, _, b2⟩ := DataW.trod_int Tryz.underlying3 h2
    obtain ⟨a3, e3, _, b3⟩ := DataW.trod_int Tryz.underlying2 h3
    obtain ⟨a4, e4, _⟩ := DataW.trod_bool Tryz.underlying4 h4
    obtain ⟨a5, e5, _⟩ := DataW.trod_bool Tryz.underlying4 h5
    obtain ⟨a6, e6, _⟩ := DataW.trod_bool Tryz.underlying4 h6
    simp only [List.cons.injEq, and_true] at e0 e1 e2 e3 e4 e5 e6
    subst e0 e1 e2 e3 e4 e5 e6
    exact ⟨⟨a0, a1, a2, a3, a4, a5, a6⟩, rfl, b0, b1, b2, b3⟩
/-- Sets of 32 bits, with their bounds. -/
def MskW : Elem Int where
  size := 1
  pos := Nat.one_pos
  cs := fun _ _ n c => c = [.int .u32 n] ∧ 0 ≤ n ∧ n < 4294967296
  len := fun h => by rw [h.1]; rfl
  one := fun h u hu => by rw [h.1] at hu; simp at hu; subst hu; rfl
  keep := fun h _ => h
  mono := fun _ h => h
  lt := fun h => h
theorem sl_mskw {w : World} {v : Value} {xs : List Int} (h : Sl MskW w v xs) : Sl MskE w v xs ∧ ∀ x ∈ xs, 0 ≤ x ∧ x < 4294967296 := by
  obtain ⟨p, cap, e, h0, h1⟩ := h
  refine ⟨⟨p, cap, e, h0, fun hne => ?_⟩, fun x hx => ?_⟩
  · obtain ⟨b, o, h2, h3, h4⟩ := h1 hne
    exact ⟨b, o, h2, h3, fun i hi => by obtain ⟨c, h5, h6⟩ := h4 i hi; exact ⟨c, h5.1, h6⟩⟩
  · obtain ⟨b, o, h2, h3, h4⟩ := h1 (List.ne_nil_of_mem hx)
    obtain ⟨i, hi, rfl⟩ := List.getElem_of_mem hx
    obtain ⟨c, h5, h6⟩ := h4 i hi
    exact h5.2
theorem u32CellsT : Tryz.prog.cellsOf 29 = 1 := by kernel_rfl
theorem opens_mskw {H : Type} {enc : TypeId × Value → H} {W : World} {sp : Nat → Bool} {held : Bool} : Opens enc Tryz.prog W sp held 29 MskW := by
  intro m cs y h
  obtain ⟨a, e, _, b⟩ := DataW.trod_int Tryz.underlying29 h
  obtain ⟨b1, b2⟩ := bounds_u32 b
  exact ⟨a, e, b1, by omega⟩
theorem opens_msks {H : Type} {enc : TypeId × Value → H} {W : World} {sp : Nat → Bool} {held : Bool} : Opens enc Tryz.prog W sp held 26 (SlE MskW) := opens_slice Tryz.underlying26 u32CellsT opens_mskw
theorem opens_evss {H : Type} {enc : TypeId × Value → H} {W : World} {sp : Nat → Bool} {held : Bool} : Opens enc Tryz.prog W sp held 25 (SlE EvW) := opens_slice Tryz.underlying25 evCells opens_evw
theorem opens_intsT {H : Type} {enc : TypeId × Value → H} {W : World} {sp : Nat → Bool} {held : Bool} : Opens enc Tryz.prog W sp held 27 (SlE IntE) := opens_slice Tryz.underlying27 int1 (opens_int Tryz.underlying3)
def fourT (a b c d : Int) : Nat → Int
  | 0 => a
  | 1 => b
  | 2 => c
  | _ => d
theorem four_cellsT {H : Type} {enc : TypeId × Value → H} {W : World} {sp : Nat → Bool} {held : Bool} {m : Nat} {c0 c1 c2 c3 : Value} {y : DataW H × List MemPlace} {t e : TypeId} {q : IntKind}
    (ht : Tryz.prog.underlying t = some (.array 4 e)) (he : Tryz.prog.underlying e = some (.int q)) (hc : Tryz.prog.cellsOf e = 1) (h : DataW.trod enc Tryz.prog W 0 sp held m t [c0, c1, c2, c3] = some y) :
    ∃ a0 a1 a2 a3 : Int, c0 = .int q a0 ∧ c1 = .int q a1 ∧ c2 = .int q a2 ∧ c3 = .int q a3 := by
  obtain ⟨xs, n, _, _, hlen, hn, hel⟩ := DataW.trod_array ht h
  rw [hc] at hel
  have h0 : DataW.trod enc Tryz.prog W 0 sp held n e [c0] = xs[0]? := hel 0 (by decide)
  have h1 : DataW.trod enc Tryz.prog W 0 sp held n e [c1] = xs[1]? := hel 1 (by decide)
  have h2 : DataW.trod enc Tryz.prog W 0 sp held n e [c2] = xs[2]? := hel 2 (by decide)
  have h3 : DataW.trod enc Tryz.prog W 0 sp held n e [c3] = xs[3]? := hel 3 (by decide)
  match xs, hn, h0, h1, h2, h3 with
  | [x0, x1, x2, x3], _, h0, h1, h2, h3 =>
    simp only [List.getElem?_cons_zero, List.getElem?_cons_succ] at h0 h1 h2 h3
    obtain ⟨a0, e0, _, _⟩ := DataW.trod_int he h0
    obtain ⟨a1, e1, _, _⟩ := DataW.trod_int he h1
    obtain ⟨a2, e2, _, _⟩ := DataW.trod_int he h2
    obtain ⟨a3, e3, _, _⟩ := DataW.trod_int he h3
    simp only [List.cons.injEq, and_true] at e0 e1 e2 e3
    exact ⟨a0, a1, a2, a3, e0, e1, e2, e3⟩
theorem fileCellsT : Tryz.prog.cellsOf 32 = 8 := by kernel_rfl
theorem cellsVT : Tryz.prog.cellsOf 28 = 4 := by kernel_rfl
theorem cellsDT : Tryz.prog.cellsOf 30 = 4 := by kernel_rfl
theorem file_cellsT {H : Type} {enc : TypeId × Value → H} {W : World} {sp : Nat → Bool} {held : Bool} {m : Nat} {cs : List Value} {y : DataW H × List MemPlace}
    (h : DataW.trod enc Tryz.prog W 0 sp held m 32 cs = some y) : ∃ a0 a1 a2 a3 d0 d1 d2 d3 : Int, cs = [.int .i64 a0, .int .i64 a1, .int .i64 a2, .int .i64 a3, .int .u32 d0, .int .u32 d1, .int .u32 d2, .int .u32 d3] := by
  obtain ⟨xs, n, _, rfl, hl, hlen, hf⟩ := DataW.trod_struct Tryz.underlying32 h
  have h0 : DataW.trod enc Tryz.prog W 0 sp held n 28 ((cs.drop 0).take (Tryz.prog.cellsOf 28)) = xs[0]? := hf 0 _ rfl
  have h1 : DataW.trod enc Tryz.prog W 0 sp held n 30 ((cs.drop 4).take (Tryz.prog.cellsOf 30)) = xs[1]? := hf 1 _ rfl
  rw [fileCellsT] at hl
  match cs, hl, xs, hlen, h0, h1 with
  | [c0, c1, c2, c3, c4, c5, c6, c7], _, [x0, x1], _, h0, h1 =>
    simp only [cellsVT, cellsDT, List.drop_zero, List.drop_succ_cons, List.take_succ_cons, List.take_zero, List.getElem?_cons_zero, List.getElem?_cons_succ] at h0 h1
    obtain ⟨a0, a1, a2, a3, rfl, rfl, rfl, rfl⟩ := four_cellsT Tryz.underlying28 Tryz.underlying2 int641 h0
    obtain ⟨d0, d1, d2, d3, rfl, rfl, rfl, rfl⟩ := four_cellsT Tryz.underlying30 Tryz.underlying29 u32CellsT h1
    exact ⟨a0, a1, a2, a3, d0, d1, d2, d3, rfl⟩
theorem trCellsT : Tryz.prog.cellsOf 34 = 16 := by kernel_rfl
theorem evs1 : Tryz.prog.cellsOf 25 = 1 := by kernel_rfl
theorem u32s1 : Tryz.prog.cellsOf 26 = 1 := by kernel_rfl
theorem ints1 : Tryz.prog.cellsOf 27 = 1 := by kernel_rfl
/-- Traces whose sets are of 32 bits. -/
def TgW : Elem Tr where
  size := 16
  pos := by decide
  cs := fun A w s c => TgE.cs A w s c ∧ Rng s
  len := fun h => TgE.len h.1
  one := fun h => TgE.one h.1
  keep := fun h hw => ⟨TgE.keep h.1 hw, h.2⟩
  mono := fun hAB h => ⟨TgE.mono hAB h.1, h.2⟩
  lt := fun h => ⟨TgE.lt h.1, h.2⟩
theorem sl_tgw {w : World} {v : Value} {xs : List Tr} (h : Sl TgW w v xs) : Sl TgE w v xs ∧ ∀ x ∈ xs, Rng x := by
  obtain ⟨p, cap, e, h0, h1⟩ := h
  refine ⟨⟨p, cap, e, h0, fun hne => ?_⟩, fun x hx => ?_⟩
  · obtain ⟨b, o, h2, h3, h4⟩ := h1 hne
    exact ⟨b, o, h2, h3, fun i hi => by obtain ⟨c, h5, h6⟩ := h4 i hi; exact ⟨c, h5.1, h6⟩⟩
  · obtain ⟨b, o, h2, h3, h4⟩ := h1 (List.ne_nil_of_mem hx)
    obtain ⟨i, hi, rfl⟩ := List.getElem_of_mem hx
    obtain ⟨c, h5, h6⟩ := h4 i hi
    exact h5.2
set_option maxHeartbeats 2000000 in
theorem opens_tgw {H : Type} {enc : TypeId × Value → H} {W : World} {sp : Nat → Bool} {held : Bool} : Opens enc Tryz.prog W sp held 34 TgW := by
  intro m cs y h
  obtain ⟨xs, n, _, rfl, hl, hlen, hf⟩ := DataW.trod_struct Tryz.underlying34 h
  have h0 : DataW.trod enc Tryz.prog W 0 sp held n 25 ((cs.drop 0).take (Tryz.prog.cellsOf 25)) = xs[0]? := hf 0 _ rfl
  have h1 : DataW.trod enc Tryz.prog W 0 sp held n 26 ((cs.drop 1).take (Tryz.prog.cellsOf 26)) = xs[1]? := hf 1 _ rfl
  have h2 : DataW.trod enc Tryz.prog W 0 sp held n 26 ((cs.drop 2).take (Tryz.prog.cellsOf 26)) = xs[2]? := hf 2 _ rfl
  have h3 : DataW.trod enc Tryz.prog W 0 sp held n 26 ((cs.drop 3).take (Tryz.prog.cellsOf 26)) = xs[3]? := hf 3 _ rfl
  have h4 : DataW.trod enc Tryz.prog W 0 sp held n 27 ((cs.drop 4).take (Tryz.prog.cellsOf 27)) = xs[4]? := hf 4 _ rfl
  have h5 : DataW.trod enc Tryz.prog W 0 sp held n 32 ((cs.drop 5).take (Tryz.prog.cellsOf 32)) = xs[5]? := hf 5 _ rfl
  have h6 : DataW.trod enc Tryz.prog W 0 sp held n 3 ((cs.drop 13).take (Tryz.prog.cellsOf 3)) = xs[6]? := hf 6 _ rfl
  have h7 : DataW.trod enc Tryz.prog W 0 sp held n 3 ((cs.drop 14).take (Tryz.prog.cellsOf 3)) = xs[7]? := hf 7 _ rfl
  have h8 : DataW.trod enc Tryz.prog W 0 sp held n 3 ((cs.drop 15).take (Tryz.prog.cellsOf 3)) = xs[8]? := hf 8 _ rfl
  rw [trCellsT] at hl
  match cs, hl, xs, hlen, h0, h1, h2, h3, h4, h5, h6, h7, h8 with
  | [c0, c1, c2, c3, c4, c5, c6, c7, c8, c9, c10, c11, c12, c13, c14, c15], _, [x0, x1, x2, x3, x4, x5, x6, x7, x8], _, h0, h1, h2, h3, h4, h5, h6, h7, h8 =>
    simp only [int1, evs1, u32s1, ints1, fileCellsT, List.drop_zero, List.drop_succ_cons, List.take_succ_cons, List.take_zero, List.getElem?_cons_zero, List.getElem?_cons_succ] at h0 h1 h2 h3 h4 h5 h6 h7 h8
    obtain ⟨l0, u0, e0, s0⟩ := opens_evss _ _ _ h0
    obtain ⟨l1, u1, e1, s1⟩ := opens_msks _ _ _ h1
    obtain ⟨l2, u2, e2, s2⟩ := opens_msks _ _ _ h2
    obtain ⟨l3, u3, e3, s3⟩ := opens_msks _ _ _ h3
    obtain ⟨l4, u4, e4, s4⟩ := opens_intsT _ _ _ h4
    obtain ⟨a0, a1, a2, a3, d0, d1, d2, d3, e5⟩ := file_cellsT h5
    obtain ⟨a6, e6, _, _⟩ := DataW.trod_int Tryz.underlying3 h6
    obtain ⟨a7, e7, _, _⟩ := DataW.trod_int Tryz.underlying3 h7
    obtain ⟨a8, e8, _, _⟩ := DataW.trod_int Tryz.underlying3 h8
    simp only [List.cons.injEq, and_true] at e0 e1 e2 e3 e4 e5 e6 e7 e8
    obtain ⟨rfl, rfl, rfl, rfl, rfl, rfl, rfl, rfl⟩ := e5
    subst e0 e1 e2 e3 e4 e6 e7 e8
    exact ⟨⟨l0, l1, l2, l3, l4, fourT a0 a1 a2 a3, fourT d0 d1 d2 d3, a6, a7, a8⟩, ⟨fun k => [c0, c1, c2, c3, c4].getD k undef, rfl, ⟨(sl_evw s0).1, (sl_mskw s1).1, (sl_mskw s2).1, (sl_mskw s3).1, s4⟩⟩, (sl_mskw s1).2, (sl_mskw s2).2, (sl_mskw s3).2⟩
theorem open_tgs {H : Type} {enc : TypeId × Value → H} {W : World} {b0 : Nat} {r : Reach} {sp : Nat → Bool} {held : Bool} {v : Value} {d : DataW H} {p : List MemPlace} (hv : Value.okWide Tryz.prog W r b0 22 v) (h : DataW.Trod enc Tryz.prog W 0 sp held 22 v d p) :
    ∃ q c xs, v = .slice q (xs : List Tr).length c ∧ Sl TgE W (.slice q xs.length c) xs ∧ ∀ x ∈ xs, Rng x := by
  obtain ⟨q, c, xs, e, s⟩ := open_sl Tryz.underlying22 trCellsT opens_tgw hv h
  exact ⟨q, c, xs, e, sl_tgw s⟩
end Go.Proofs.YtcalinfdckklfaaGreatDoor
