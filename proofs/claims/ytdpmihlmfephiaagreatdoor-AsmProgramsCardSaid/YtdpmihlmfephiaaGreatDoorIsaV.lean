/- What the rows' steps need: an instruction that comes in, opened to its five fields. -/
import Derived.Test.YtdpmihlmfephiaaGreatDoorChecked
import Derived.Test.YtdpmihlmfephiaaGreatDoorIsaT
import Derived.ProofKit
import Derived.Carry
namespace Go.Proofs.YtdpmihlmfephiaaGreatDoor
set_option linter.unusedVariables false
set_option linter.unusedSimpArgs false
open Go.Joins Go.ChangeShapes Go.WideShapes Go.RowKit Go.Deep

end Go.Proofs.YtdpmihlmfephiaaGreatDoor
