/- AsmPrints: the law's walk; the document's List; AsmLists: the law's walk. -/
import Derived.Test.YtdpmihlmfephiaaGreatDoorAd1
import Derived.Test.YtdpmihlmfephiaaGreatDoorIsaDD
namespace Go.Proofs.YtdpmihlmfephiaaGreatDoor
set_option linter.unusedVariables false
set_option linter.unusedSimpArgs false
open Go.Joins Go.ChangeShapes Go.WideShapes Go.ChangeAt Go.RowKit Go.Deep

end Go.Proofs.YtdpmihlmfephiaaGreatDoor
