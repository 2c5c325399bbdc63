/- Contracts of package cupolaref01: the document's answers are the same functions of the numbers. -/
import Derived.Test.YtpmaifmokhnboaaDoorInsMay
import Derived.Test.YtpmaifmokhnboaaDoorInsP
namespace Go.Proofs.YtpmaifmokhnboaaDoor
open Go.RowKit

end Go.Proofs.YtpmaifmokhnboaaDoor
