/- What holds of each of a list: contracts of slices.IndexFunc, slices.ContainsFunc and of all. -/
import Derived.Test.YtidnojjhchmmgaaCeG
import Derived.Test.YtidnojjhchmmgaaCeF
namespace Go.Proofs.Ytidnojjhchmmgaa
set_option linter.unusedVariables false
set_option linter.unusedSimpArgs false
open Go.Joins Go.ChangeShapes Go.WideShapes Go.ChangeAt Go.RowKit

theorem box_cell {w W : World} {cs : Array Value} {t : TypeId} (h : Below (w.alloc (.cells cs t)).heap.size (w.alloc (.cells cs t)) W) (j : Nat) {v : Value} (hv : cs[j]? = some v) : W.cell? ⟨w.heap.size, j, none⟩ = some v := (boxed h j).trans hv
end Go.Proofs.Ytidnojjhchmmgaa
