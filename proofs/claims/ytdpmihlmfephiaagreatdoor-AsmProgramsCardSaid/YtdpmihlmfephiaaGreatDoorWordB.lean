/- Contracts of package word's functions on numbers, and of the document's own ones: signs, whether a number fits, products, quotients. -/
import Derived.Test.YtdpmihlmfephiaaGreatDoorWordA
namespace Go.Proofs.YtdpmihlmfephiaaGreatDoor
set_option linter.unusedSimpArgs false
set_option linter.unusedVariables false
open Go.ChangeShapes Go.WideShapes Go.ChangeAt Go.RowKit

end Go.Proofs.YtdpmihlmfephiaaGreatDoor
