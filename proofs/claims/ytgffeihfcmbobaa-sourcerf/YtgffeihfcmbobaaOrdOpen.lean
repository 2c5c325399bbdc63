/- An argument that is a number of 16 bits, opened. -/
import Derived.Test.YtgffeihfcmbobaaRelOpen
namespace Go.Proofs.Ytgffeihfcmbobaa
open Go.ChangeShapes Go.WideShapes Go.ChangeAt Go.RowKit
theorem nat_u16 {n : Int} (h : (Lit.int .u16 n).wf = true) : ∃ x : Nat, n = (x : Int) ∧ x < 65536 := by
  obtain ⟨h1, h2⟩ := bounds_u16 h
  exact ⟨n.toNat, by omega, by omega⟩
end Go.Proofs.Ytgffeihfcmbobaa
