/- An argument of type api.Ins, opened: six ints. -/
import Derived.Test.YtgffeihfcmbobaaProg
import Derived.ProofKit
import Derived.OpenShut
namespace Go.Proofs.Ytgffeihfcmbobaa
open Go.ChangeShapes Go.WideShapes Go.ChangeAt Go.RowKit

theorem int1 : Try.prog.cellsOf 3 = 1 := by kernel_rfl
theorem int641 : Try.prog.cellsOf 2 = 1 := by kernel_rfl

end Go.Proofs.Ytgffeihfcmbobaa
