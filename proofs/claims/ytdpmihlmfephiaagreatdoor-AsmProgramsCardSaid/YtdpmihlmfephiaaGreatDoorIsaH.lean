/- The chapter's examples: number, awake. -/
import Derived.Test.YtdpmihlmfephiaaGreatDoorIsaF
import Derived.Test.YtdpmihlmfephiaaGreatDoorIsaG
namespace Go.Proofs.YtdpmihlmfephiaaGreatDoor
set_option linter.unusedVariables false
set_option linter.unusedSimpArgs false
open Go.Joins Go.ChangeShapes Go.WideShapes Go.ChangeAt Go.RowKit

end Go.Proofs.YtdpmihlmfephiaaGreatDoor
