/- The contract of symbolFits. -/
import Derived.Test.YtidnojjhchmmgaaCeC
import Derived.Test.YtidnojjhchmmgaaCeD
import Derived.Test.YtidnojjhchmmgaaCeE
import Derived.Laws.Strings
namespace Go.Proofs.Ytidnojjhchmmgaa
set_option linter.unusedVariables false
set_option linter.unusedSimpArgs false
open Go.Joins Go.ChangeShapes Go.WideShapes Go.ChangeAt Go.RowKit

theorem boxed {w W' : World} {cs : Array Value} {t : TypeId} (h : Below (w.alloc (.cells cs t)).heap.size (w.alloc (.cells cs t)) W') (j : Nat) : W'.cell? ⟨w.heap.size, j, none⟩ = cs[j]? := by
  rw [h.cell (p := ⟨w.heap.size, j, none⟩) (by rw [size_alloc]; exact Nat.lt_succ_self _)]
  exact cell_of_row _ _ j cs t (0, 0) (heap_alloc_new w _)
theorem two_boxes {w W : World} {c1 c2 : Array Value} {t1 t2 : TypeId} (h : Below ((w.alloc (.cells c1 t1)).alloc (.cells c2 t2)).heap.size ((w.alloc (.cells c1 t1)).alloc (.cells c2 t2)) W) :
    (∀ j, W.cell? ⟨w.heap.size, j, none⟩ = c1[j]?) ∧ ∀ j, W.cell? ⟨w.heap.size + 1, j, none⟩ = c2[j]? :=
  ⟨fun j => boxed (bTrans (bAlloc (Below.refl _ _) _) h) j, fun j => by
    have := boxed (w := w.alloc (.cells c1 t1)) h j
    rwa [size_alloc] at this⟩
end Go.Proofs.Ytidnojjhchmmgaa
