/- The contract of segmentsFit. -/
import Derived.Test.YtidnojjhchmmgaaCeA
import Derived.LoopTactic
import Derived.Outline
import Derived.Deep.QuietTactic
import Derived.BigQuiet
import Derived.Laws.BitsAllLaws
import Derived.OpenShut
import Derived.Lib.SmallJoins
import Derived.Deep.RegionHeld3
import Derived.Deep.RegionWith
import Derived.Laws.NewBlocks
namespace Go.Proofs.Ytidnojjhchmmgaa
set_option linter.unusedVariables false
set_option linter.unusedSimpArgs false
open Go.Joins Go.ChangeShapes Go.WideShapes Go.ChangeAt Go.RowKit

theorem and2 (f : Int) (h1 : 1 ≤ f) (h7 : f ≤ 7) : (bits .and .i64 f 2 = 0 ∧ (f = 1 ∨ f = 4 ∨ f = 5)) ∨ (bits .and .i64 f 2 ≠ 0 ∧ (f = 2 ∨ f = 3 ∨ f = 6 ∨ f = 7)) := by
  have : f = 1 ∨ f = 2 ∨ f = 3 ∨ f = 4 ∨ f = 5 ∨ f = 6 ∨ f = 7 := by omega
  rcases this with rfl | rfl | rfl | rfl | rfl | rfl | rfl <;> decide
theorem and4 (f : Int) (h1 : 1 ≤ f) (h7 : f ≤ 7) : (bits .and .i64 f 4 = 0 ∧ f ≤ 3) ∨ (bits .and .i64 f 4 ≠ 0 ∧ 4 ≤ f) := by
  have : f = 1 ∨ f = 2 ∨ f = 3 ∨ f = 4 ∨ f = 5 ∨ f = 6 ∨ f = 7 := by omega
  rcases this with rfl | rfl | rfl | rfl | rfl | rfl | rfl <;> decide
end Go.Proofs.Ytidnojjhchmmgaa
