/- Two lists that are the same are told so; so are two traces. -/
import Derived.Test.YtpmaifmokhnboaaDoorFlowP
import Derived.Test.YtpmaifmokhnboaaDoorRegsP
namespace Go.Proofs.YtpmaifmokhnboaaDoor
open Go.RowKit
attribute [local go_sem] Ext.cell Ext.frozen

attribute [local go_sem] four_same' fourD_same'
end Go.Proofs.YtpmaifmokhnboaaDoor
