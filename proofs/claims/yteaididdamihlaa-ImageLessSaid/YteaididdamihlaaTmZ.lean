/- May this be a capability: the document's Right: contract. -/
import Derived.Test.YteaididdamihlaaTmQ
namespace Go.Proofs.Yteaididdamihlaa
set_option linter.unusedVariables false
set_option linter.unusedSimpArgs false
open Go.Joins Go.ChangeShapes Go.WideShapes Go.ChangeAt Go.RowKit Go.Deep

def rightB (c : Cp) : Bool := decide (0 ≤ c.p) && (decide (c.p ≤ 255) && (decide (-1 ≤ c.y) && decide (c.y ≤ 63)))
end Go.Proofs.Yteaididdamihlaa
