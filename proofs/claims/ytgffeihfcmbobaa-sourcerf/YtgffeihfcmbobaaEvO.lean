/- Arguments that are numbers, or events, opened, with their bounds. -/
import Derived.Test.YtgffeihfcmbobaaEvP
import Derived.Test.YtgffeihfcmbobaaRepOpen
import Derived.Test.YtgffeihfcmbobaaInsOpen
namespace Go.Proofs.Ytgffeihfcmbobaa
set_option maxRecDepth 20000
open Go.ChangeShapes Go.WideShapes Go.ChangeAt Go.RowKit

theorem boolCells : Try.prog.cellsOf 4 = 1 := by kernel_rfl
theorem open_sl {α H : Type} {enc : TypeId × Value → H} {W : World} {b0 : Nat} {r : Reach} {sp : Nat → Bool} {held : Bool} {v : Value} {d : DataW H} {p : List MemPlace} {t e : TypeId} {R : Elem α} (ht : Try.prog.underlying t = some (.slice e)) (hs : Try.prog.cellsOf e = R.size) (hE : Opens enc Try.prog W sp held e R)
    (hv : Value.okWide Try.prog W r b0 t v) (h : DataW.Trod enc Try.prog W 0 sp held t v d p) :
    ∃ q c xs, v = .slice q (xs : List α).length c ∧ Sl R W (.slice q xs.length c) xs := by
  obtain ⟨a, len, cap, rfl⟩ := okWide_slice ht hv
  obtain ⟨fuel, hf⟩ := h
  obtain ⟨xs, v, e, s⟩ := opens_slice ht hs hE _ _ _ hf
  simp only [Value.cells, List.cons.injEq, and_true] at e
  subst e
  obtain ⟨q, c, e⟩ := s.len
  rw [e] at s ⊢
  exact ⟨q, c, xs, rfl, s⟩
/-- Numbers of 64 bits. -/
def IntW : Elem Int where
  size := 1
  pos := Nat.one_pos
  cs := fun _ _ n c => c = [.int .i64 n] ∧ InZ n
  len := fun h => by rw [h.1]; rfl
  one := fun h u hu => by rw [h.1] at hu; simp at hu; subst hu; rfl
  keep := fun h _ => h
  mono := fun _ h => h
  lt := fun h => h
theorem sl_intw {w : World} {v : Value} {xs : List Int} (h : Sl IntW w v xs) : Sl IntE w v xs ∧ ∀ x ∈ xs, InZ x := by
  obtain ⟨p, cap, e, h0, h1⟩ := h
  refine ⟨⟨p, cap, e, h0, fun hne => ?_⟩, fun x hx => ?_⟩
  · obtain ⟨b, o, h2, h3, h4⟩ := h1 hne
    exact ⟨b, o, h2, h3, fun i hi => by obtain ⟨c, h5, h6⟩ := h4 i hi; exact ⟨c, h5.1, h6⟩⟩
  · obtain ⟨b, o, h2, h3, h4⟩ := h1 (List.ne_nil_of_mem hx)
    obtain ⟨i, hi, rfl⟩ := List.getElem_of_mem hx
    obtain ⟨c, h5, h6⟩ := h4 i hi
    exact h5.2
theorem opens_intw {H : Type} {enc : TypeId × Value → H} {P : Program} {W : World} {sp : Nat → Bool} {held : Bool} {t : TypeId} (ht : P.underlying t = some (.int .i64)) : Opens enc P W sp held t IntW := by
  intro m cs y h
  obtain ⟨a, e, _, hw⟩ := DataW.trod_int ht h
  exact ⟨a, e, hw⟩
theorem open_i64w {H : Type} {enc : TypeId × Value → H} {W : World} {b0 : Nat} {r : Reach} {sp : Nat → Bool} {held : Bool} {v : Value} {d : DataW H} {p : List MemPlace} (hv : Value.okWide Try.prog W r b0 23 v) (h : DataW.Trod enc Try.prog W 0 sp held 23 v d p) :
    ∃ q c xs, v = .slice q (xs : List Int).length c ∧ Sl IntE W (.slice q xs.length c) xs ∧ ∀ x ∈ xs, InZ x := by
  obtain ⟨q, c, xs, e, s⟩ := open_sl Try.underlying23 int641 (opens_intw Try.underlying2) hv h
  exact ⟨q, c, xs, e, sl_intw s⟩
theorem evCells : Try.prog.cellsOf 49 = 7 := by kernel_rfl
/-- Events whose numbers are of 64 bits. -/
def InE (x : Ev) : Prop := InZ x.th ∧ InZ x.kd ∧ InZ x.lc ∧ InZ x.vl
def EvW : Elem Ev where
  size := 7
  pos := by decide
  cs := fun _ _ x c => c = x.cells ∧ InE x
  len := fun h => by rw [h.1]; rfl
  one := fun h u hu => by rw [h.1] at hu; simp [Ev.cells] at hu; rcases hu with rfl | rfl | rfl | rfl | rfl | rfl | rfl <;> rfl
  keep := fun h _ => h
  mono := fun _ h => h
  lt := fun h => h
theorem sl_evw {w : World} {v : Value} {xs : List Ev} (h : Sl EvW w v xs) : Sl EvE w v xs ∧ ∀ x ∈ xs, InE x := by
  obtain ⟨p, cap, e, h0, h1⟩ := h
  refine ⟨⟨p, cap, e, h0, fun hne => ?_⟩, fun x hx => ?_⟩
  · obtain ⟨b, o, h2, h3, h4⟩ := h1 hne
    exact ⟨b, o, h2, h3, fun i hi => by obtain ⟨c, h5, h6⟩ := h4 i hi; exact ⟨c, h5.1, h6⟩⟩
  · obtain ⟨b, o, h2, h3, h4⟩ := h1 (List.ne_nil_of_mem hx)
    obtain ⟨i, hi, rfl⟩ := List.getElem_of_mem hx
    obtain ⟨c, h5, h6⟩ := h4 i hi
    exact h5.2
theorem opens_evw {H : Type} {enc : TypeId × Value → H} {W : World} {sp : Nat → Bool} {held : Bool} : Opens enc Try.prog W sp held 49 EvW := by
  intro m cs y h
  obtain ⟨xs, n, _, rfl, hl, hlen, hf⟩ := DataW.trod_struct Try.underlying49 h
  have h0 : DataW.trod enc Try.prog W 0 sp held n 3 ((cs.drop 0).take (Try.prog.cellsOf 3)) = xs[0]? := hf 0 _ rfl
  have h1 : DataW.trod enc Try.prog W 0 sp held n 3 ((cs.drop 1).take (Try.prog.cellsOf 3)) = xs[1]? := hf 1 _ rfl
  have h2 : DataW.trod enc Try.prog W 0 sp held n 3 ((cs.drop 2).take (Try.prog.cellsOf 3)) = xs[2]? := hf 2 _ rfl
  have h3 : DataW.trod enc Try.prog W 0 sp held n 2 ((cs.drop 3).take (Try.prog.cellsOf 2)) = xs[3]? := hf 3 _ rfl
  have h4 : DataW.trod enc Try.prog W 0 sp held n 4 ((cs.drop 4).take (Try.prog.cellsOf 4)) = xs[4]? := hf 4 _ rfl
  have h5 : DataW.trod enc Try.prog W 0 sp held n 4 ((cs.drop 5).take (Try.prog.cellsOf 4)) = xs[5]? := hf 5 _ rfl
  have h6 : DataW.trod enc Try.prog W 0 sp held n 4 ((cs.drop 6).take (Try.prog.cellsOf 4)) = xs[6]? := hf 6 _ rfl
  rw [evCells] at hl
  match cs, hl, xs, hlen, h0, h1, h2, h3, h4, h5, h6 with
  | [c0, c1, c2, c3, c4, c5, c6], _, [x0, x1, x2, x3, x4, x5, x6], _, h0, h1, h2, h3, h4, h5, h6 =>
    simp only [int1, int641, boolCells, List.drop_zero, List.drop_succ_cons, List.take_succ_cons, List.take_zero, List.getElem?_cons_zero, List.getElem?_cons_succ] at h0 h1 h2 h3 h4 h5 h6
    obtain ⟨a0, e0, _, b0⟩ := DataW.trod_int Try.underlying3 h0
    obtain ⟨a1, e1, _, b1⟩ := DataW.trod_int Try.underlying3 h1
    obtain ⟨a2, e2, _, b2⟩ := DataW.trod_int Try.underlying3 h2
    obtain ⟨a3, e3, _, b3⟩ := DataW.trod_int Try.underlying2 h3
    obtain ⟨a4, e4, _⟩ := DataW.trod_bool Try.underlying4 h4
    obtain ⟨a5, e5, _⟩ := DataW.trod_bool Try.underlying4 h5
    obtain ⟨a6, e6, _⟩ := DataW.trod_bool Try.underlying4 h6
    simp only [List.cons.injEq, and_true] at e0 e1 e2 e3 e4 e5 e6
    subst e0 e1 e2 e3 e4 e5 e6
    exact ⟨⟨a0, a1, a2, a3, a4, a5, a6⟩, rfl, b0, b1, b2, b3⟩
theorem open_evs {H : Type} {enc : TypeId × Value → H} {W : World} {b0 : Nat} {r : Reach} {sp : Nat → Bool} {held : Bool} {v : Value} {d : DataW H} {p : List MemPlace} (hv : Value.okWide Try.prog W r b0 22 v) (h : DataW.Trod enc Try.prog W 0 sp held 22 v d p) :
    ∃ q c xs, v = .slice q (xs : List Ev).length c ∧ Sl EvE W (.slice q xs.length c) xs ∧ ∀ x ∈ xs, InE x := by
  obtain ⟨q, c, xs, e, s⟩ := open_sl Try.underlying22 evCells opens_evw hv h
  exact ⟨q, c, xs, e, sl_evw s⟩
/-- A slice that is handed in is no longer than a machine's greatest number. -/
theorem len_okWide {P : Program} {w : World} {r : Reach} {base : Nat} {t e : TypeId} {q : Option Addr} {n c : Nat} (ht : P.underlying t = some (.slice e)) (h : Value.okWide P w r base t (.slice q n c)) : n ≤ 9223372036854775807 := by
  simp only [Value.okWide, ht, Cell.okWide] at h
  cases q with
  | none =>
    match n, c, h with
    | 0, _, _ => exact Nat.zero_le _
    | n + 1, c, h => simp [Cell.ok, ht] at h
  | some a =>
    simp only [Cell.ok, ht] at h
    have h1 := h.1
    have h2 := h.2.1
    have h3 : IntKind.i64.max = 9223372036854775807 := by decide
    omega
end Go.Proofs.Ytgffeihfcmbobaa
