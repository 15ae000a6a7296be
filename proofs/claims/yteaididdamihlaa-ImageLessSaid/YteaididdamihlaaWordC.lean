/- Contracts of the document's own long division, and product. -/
import Derived.Test.YteaididdamihlaaWordB
namespace Go.Proofs.Yteaididdamihlaa
set_option linter.unusedSimpArgs false
set_option linter.unusedVariables false
open Go.ChangeShapes Go.WideShapes Go.ChangeAt Go.RowKit

def low_is (x : Int) : Bool := decide (9223372036854775808 ≤ x)
end Go.Proofs.Yteaididdamihlaa
