/- Arguments that are lists of numbers of 32 bits, opened. -/
import Derived.Test.YtgffeihfcmbobaaRelP
import Derived.Test.YtgffeihfcmbobaaRows
import Derived.ProofKit
import Derived.OpenShut
namespace Go.Proofs.Ytgffeihfcmbobaa
open Go.ChangeShapes Go.WideShapes Go.ChangeAt Go.RowKit

theorem nat_u32 {n : Int} (h : (Lit.int .u32 n).wf = true) : ∃ x : Nat, n = (x : Int) ∧ x < 4294967296 := by
  obtain ⟨h1, h2⟩ := bounds_u32 h
  exact ⟨n.toNat, by omega, by omega⟩
theorem nat_u8 {n : Int} (h : (Lit.int .u8 n).wf = true) : ∃ x : Nat, n = (x : Int) ∧ x < 256 := by
  obtain ⟨h1, h2⟩ := bounds_u8 h
  exact ⟨n.toNat, by omega, by omega⟩
theorem opens_u32 {H : Type} {enc : TypeId × Value → H} {P : Program} {W : World} {sp : Nat → Bool} {held : Bool} {t : TypeId} (ht : P.underlying t = some (.int .u32)) : Opens enc P W sp held t U32E := by
  intro m cs y h
  obtain ⟨a, e, _, b⟩ := DataW.trod_int ht h
  obtain ⟨x, rfl, hx⟩ := nat_u32 b
  exact ⟨x, e, hx⟩
theorem u32Cells : Try.prog.cellsOf 71 = 1 := by kernel_rfl
theorem open_u32s {H : Type} {enc : TypeId × Value → H} {W : World} {b0 : Nat} {r : Reach} {sp : Nat → Bool} {held : Bool} {v : Value} {d : DataW H} {p : List MemPlace}
    (hv : Value.okWide Try.prog W r b0 26 v) (h : DataW.Trod enc Try.prog W 0 sp held 26 v d p) :
    ∃ q c xs, v = .slice q (xs : List Nat).length c ∧ Sl U32E W (.slice q xs.length c) xs := by
  obtain ⟨a, len, cap, rfl⟩ := okWide_slice Try.underlying26 hv
  obtain ⟨fuel, hf⟩ := h
  obtain ⟨xs, v, e, s⟩ := opens_slice Try.underlying26 u32Cells (opens_u32 Try.underlying71) _ _ _ hf
  simp only [Value.cells, List.cons.injEq, and_true] at e
  subst e
  obtain ⟨q, c, e⟩ := s.len
  rw [e] at s ⊢
  exact ⟨q, c, xs, rfl, s⟩
end Go.Proofs.Ytgffeihfcmbobaa
