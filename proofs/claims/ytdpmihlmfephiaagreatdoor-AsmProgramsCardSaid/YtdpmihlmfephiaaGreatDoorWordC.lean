/- Contracts of the document's own long division, and product. -/
import Derived.Test.YtdpmihlmfephiaaGreatDoorWordB
namespace Go.Proofs.YtdpmihlmfephiaaGreatDoor
set_option linter.unusedSimpArgs false
set_option linter.unusedVariables false
open Go.ChangeShapes Go.WideShapes Go.ChangeAt Go.RowKit

end Go.Proofs.YtdpmihlmfephiaaGreatDoor
