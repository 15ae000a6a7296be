/- Blocks of cells: what is kept of them. -/
import Derived.Test.YtdpmihlmfephiaaGreatDoorTmK
import Derived.RangeFuncBound
import Derived.RangeFuncCalls
namespace Go.Proofs.YtdpmihlmfephiaaGreatDoor
set_option linter.unusedVariables false
set_option linter.unusedSimpArgs false
open Go.Joins Go.ChangeShapes Go.WideShapes Go.ChangeAt Go.RowKit Go.Deep

theorem BoxN.grown {W W' : World} {B : Nat} {cs : Array Value} {row : Option Nat} (h : BoxN W B cs) (hg : W.grownBy W' row) (hr : row ≠ some B) : BoxN W' B cs := by
  have hl := h.lt
  obtain ⟨t, h⟩ := h
  exact ⟨t, (hg.block B hl (fun e => hr e.symm)).trans h⟩
theorem BoxN.other {W : World} {B B' j : Nat} {cs : Array Value} {x : Value} (h : BoxN W B cs) (hne : B ≠ B') : BoxN (W.setCell ⟨B', j, none⟩ x) B cs := by
  obtain ⟨t, h⟩ := h
  exact ⟨t, (Below.heap_setCell _ _ _ _ hne).trans h⟩
theorem BoxN.drew {W : World} {B : Nat} {cs : Array Value} (h : BoxN W B cs) : BoxN W.drew B cs := h
theorem BoxN.kept {W W' : World} {B : Nat} {cs : Array Value} {row : Option Nat} (h : BoxN W B cs) (hg : W.grownBy W' row) (hr : ∀ r, row = some r → ∃ o : Go.Obj, W.heap[r]? = some o ∧ o.isCells = false) : BoxN W' B cs :=
  h.grown hg fun e => by
    obtain ⟨o, ho, hc⟩ := hr B e
    obtain ⟨t, h⟩ := h
    rw [h] at ho
    cases ho
    cases hc
end Go.Proofs.YtdpmihlmfephiaaGreatDoor
