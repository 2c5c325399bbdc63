/- The example of layer 9, reckoned. -/
import Derived.Test.YtgaannoghefbbaaDoorValsMath3
namespace Go.Proofs.YtgaannoghefbbaaDoor
def demo9 : List Ins := [⟨5, 1, -1, 0, 0, 0⟩, ⟨1, 2, 0, 0, 0, 1⟩, ⟨2, 1, 1, 2, 0, 0⟩, ⟨6, 0, -1, 1, 0, 0⟩]
theorem demo9_of : ofZ [0] [demo9] = ([0, 1], 0) := by decide +kernel
theorem demo9_tr : (tracesT demo9 1 [0, 5, 9]).length = 3 := by decide +kernel
end Go.Proofs.YtgaannoghefbbaaDoor
