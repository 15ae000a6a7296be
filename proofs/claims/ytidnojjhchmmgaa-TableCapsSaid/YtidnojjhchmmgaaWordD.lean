/- Contracts of package word's functions on bytes, and of the document's own. -/
import Derived.Test.YtidnojjhchmmgaaWordC
import Derived.Test.YtidnojjhchmmgaaMem
import Derived.Test.YtidnojjhchmmgaaWb
import Derived.Outline
import Derived.Maps.AppendAt
namespace Go.Proofs.Ytidnojjhchmmgaa
set_option linter.unusedSimpArgs false
set_option linter.unusedVariables false
open Go.ChangeShapes Go.WideShapes Go.ChangeAt Go.RowKit

theorem infoU8 : (Try.prog.info? 5).map (fun i => (i.zero, i.size, i.bytes)) = some (some (.int .u8 0), 1, 1) := by kernel_rfl
end Go.Proofs.Ytidnojjhchmmgaa
