/- Contracts of writable and of relocsFit. -/
import Derived.Test.YtidnojjhchmmgaaCeH
namespace Go.Proofs.Ytidnojjhchmmgaa
set_option linter.unusedVariables false
set_option linter.unusedSimpArgs false
open Go.Joins Go.ChangeShapes Go.WideShapes Go.ChangeAt Go.RowKit

theorem writeB_end {l : List Seg} {x n : Int} (hsb : segsB 0 l = true) (h : writeB l x n = true) : x + n ≤ 16384 := by
  obtain ⟨s, hs, hp⟩ := List.any_eq_true.1 h
  have h1 := segsB_in hsb s hs
  simp only [Bool.and_eq_true, hasB, decide_eq_true_eq] at hp
  omega
end Go.Proofs.Ytidnojjhchmmgaa
