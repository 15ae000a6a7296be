/- The contract of the document's Decode; the law of every number. -/
import Derived.Test.YtdpmihlmfephiaaGreatDoorIsaZ
import Derived.Test.YtdpmihlmfephiaaGreatDoorIsaJ
namespace Go.Proofs.YtdpmihlmfephiaaGreatDoor
set_option linter.unusedVariables false
set_option maxRecDepth 100000
set_option linter.unusedSimpArgs false
open Go.Joins Go.ChangeShapes Go.WideShapes Go.ChangeAt Go.RowKit

end Go.Proofs.YtdpmihlmfephiaaGreatDoor
