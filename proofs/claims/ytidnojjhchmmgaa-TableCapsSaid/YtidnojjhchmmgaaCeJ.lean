/- The contract of Check. -/
import Derived.Test.YtidnojjhchmmgaaCeI
namespace Go.Proofs.Ytidnojjhchmmgaa
set_option linter.unusedVariables false
set_option linter.unusedSimpArgs false
open Go.Joins Go.ChangeShapes Go.WideShapes Go.ChangeAt Go.RowKit

/-- the seven cells of an object's box -/
theorem box7 {w W : World} {o : Ob} {t : TypeId} (h : Below (w.alloc (.cells (objC o).toArray t)).heap.size (w.alloc (.cells (objC o).toArray t)) W) (j : Nat) : W.cell? ⟨w.heap.size, j, none⟩ = (objC o)[j]? := by
  have := boxed h j
  rw [this]
  simp
end Go.Proofs.Ytidnojjhchmmgaa
