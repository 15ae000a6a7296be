/- Contracts of package word's functions on numbers, and of the document's own ones: what each answers, at any arguments. -/
import Derived.Test.YteaididdamihlaaRows
import Derived.Test.YteaididdamihlaaWm
import Derived.Test.YteaididdamihlaaMem
import Derived.WalkKit
import Derived.ProofKit
import Derived.OpenShut
import Derived.Outline
import Derived.Deep.QuietTactic
import Derived.BigQuiet
import Derived.LoopTactic
import Derived.Lib.Hide
namespace Go.Proofs.Yteaididdamihlaa
open Go.ChangeShapes Go.WideShapes Go.ChangeAt Go.RowKit


end Go.Proofs.Yteaididdamihlaa
