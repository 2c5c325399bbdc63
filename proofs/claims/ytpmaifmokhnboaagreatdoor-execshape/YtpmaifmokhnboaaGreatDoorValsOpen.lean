/- Arguments of layer 9, opened: numbers with their bounds. -/
import Derived.Test.YtpmaifmokhnboaaGreatDoorFlowOpen
import Derived.Test.YtpmaifmokhnboaaGreatDoorTestOpen
import Derived.Test.YtpmaifmokhnboaaGreatDoorValsK
namespace Go.Proofs.YtpmaifmokhnboaaGreatDoor
set_option maxRecDepth 20000
open Go.ChangeShapes Go.WideShapes Go.ChangeAt Go.RowKit

/-- Numbers of 64 bits. -/
def IntW : Elem Int where
  size := 1
  pos := Nat.one_pos
  cs := fun _ _ n c => c = [.int .i64 n] ∧ InZ n
  len := fun h => by rw [h.1]; rfl
  one := fun h u hu => by rw [h.1] at hu; simp at hu; subst hu; rfl
  keep := fun h _ => h
  mono := fun _ h => h
  lt := fun h => h
theorem sl_intw {w : World} {v : Value} {xs : List Int} (h : Sl IntW w v xs) : Sl IntE w v xs ∧ ∀ x ∈ xs, InZ x := by
  obtain ⟨p, cap, e, h0, h1⟩ := h
  refine ⟨⟨p, cap, e, h0, fun hne => ?_⟩, fun x hx => ?_⟩
  · obtain ⟨b, o, h2, h3, h4⟩ := h1 hne
    exact ⟨b, o, h2, h3, fun i hi => by obtain ⟨c, h5, h6⟩ := h4 i hi; exact ⟨c, h5.1, h6⟩⟩
  · obtain ⟨b, o, h2, h3, h4⟩ := h1 (List.ne_nil_of_mem hx)
    obtain ⟨i, hi, rfl⟩ := List.getElem_of_mem hx
    obtain ⟨c, h5, h6⟩ := h4 i hi
    exact h5.2
theorem opens_intw {H : Type} {enc : TypeId × Value → H} {P : Program} {W : World} {sp : Nat → Bool} {held : Bool} {t : TypeId} (ht : P.underlying t = some (.int .i64)) : Opens enc P W sp held t IntW := by
  intro m cs y h
  obtain ⟨a, e, _, hw⟩ := DataW.trod_int ht h
  exact ⟨a, e, hw⟩
theorem open_i64w {H : Type} {enc : TypeId × Value → H} {W : World} {b0 : Nat} {r : Reach} {sp : Nat → Bool} {held : Bool} {v : Value} {d : DataW H} {p : List MemPlace} (hv : Value.okWide Tryz.prog W r b0 60 v) (h : DataW.Trod enc Tryz.prog W 0 sp held 60 v d p) :
    ∃ q c xs, v = .slice q (xs : List Int).length c ∧ Sl IntE W (.slice q xs.length c) xs ∧ ∀ x ∈ xs, InZ x := by
  obtain ⟨q, c, xs, e, s⟩ := open_sl Tryz.underlying60 int641 (opens_intw Tryz.underlying2) hv h
  exact ⟨q, c, xs, e, sl_intw s⟩
theorem opens_numw {H : Type} {enc : TypeId × Value → H} {W : World} {sp : Nat → Bool} {held : Bool} : Opens enc Tryz.prog W sp held 60 (SlE IntW) :=
  opens_slice Tryz.underlying60 int641 (opens_intw Tryz.underlying2)

theorem open_testw {H : Type} {enc : TypeId × Value → H} {W : World} {b0 : Nat} {r : Reach} {sp : Nat → Bool} {held : Bool} {v : Value} {d : DataW H} {p : List MemPlace}
    (hv : Value.okWide Tryz.prog W r b0 63 v) (h : DataW.Trod enc Tryz.prog W 0 sp held 63 v d p) :
    ∃ pi ci pt ct xs ts, v = .agg #[.slice pi xs.length ci, .slice pt ts.length ct] ∧ Sl IntE W (.slice pi (xs : List Int).length ci) xs ∧ Sl ThrE W (.slice pt (ts : List (List Ins)).length ct) ts ∧ ∀ x ∈ xs, InZ x := by
  obtain ⟨cs, rfl, _⟩ := okWide_struct Tryz.underlying63 hv
  obtain ⟨fuel, hf⟩ := h
  obtain ⟨ys, n, _, _, hl, hlen, hfs⟩ := DataW.trod_struct Tryz.underlying63 hf
  have h0 : DataW.trod enc Tryz.prog W 0 sp held n 60 (((Value.agg cs).cells.toList.drop 0).take (Tryz.prog.cellsOf 60)) = ys[0]? := hfs 0 _ rfl
  have h1 : DataW.trod enc Tryz.prog W 0 sp held n 61 (((Value.agg cs).cells.toList.drop 1).take (Tryz.prog.cellsOf 61)) = ys[1]? := hfs 1 _ rfl
  rw [testCells] at hl
  obtain ⟨cl⟩ := cs
  simp only [Value.cells] at h0 h1 hl
  match cl, hl, ys, hlen, h0, h1 with
  | [c0, c1], _, [x0, x1], _, h0, h1 =>
    simp only [numsCells, thrsCells, List.drop_zero, List.drop_succ_cons, List.take_succ_cons, List.take_zero, List.getElem?_cons_zero, List.getElem?_cons_succ] at h0 h1
    obtain ⟨xs, v0, e0, s0⟩ := opens_numw _ _ _ h0
    obtain ⟨ts, v1, e1, s1⟩ := opens_thrs _ _ _ h1
    simp only [List.cons.injEq, and_true] at e0 e1
    subst e0 e1
    obtain ⟨pi, ci, rfl⟩ := s0.len
    obtain ⟨pt, ct, rfl⟩ := s1.len
    exact ⟨pi, ci, pt, ct, xs, ts, rfl, (sl_intw s0).1, s1, (sl_intw s0).2⟩
end Go.Proofs.YtpmaifmokhnboaaGreatDoor
