/- The document's memory: a capability is loaded: contract. -/
import Derived.Test.YteaididdamihlaaTmLc
import Derived.Test.YteaididdamihlaaTmN
import Derived.Test.YteaididdamihlaaTmU
import Derived.Deep.Cut
namespace Go.Proofs.Yteaididdamihlaa
set_option linter.unusedVariables false
set_option linter.unusedSimpArgs false
open Go.Joins Go.ChangeShapes Go.WideShapes Go.ChangeAt Go.RowKit Go.Deep

theorem boxN_drew {W : World} {B : Nat} {cs : Array Value} (h : BoxN W B cs) : BoxN W.drew B cs := h
theorem cell_off {W : World} {g S k j : Nat} {x : Value} (hg : g ≠ S) : (W.setCell ⟨S, k, none⟩ x).cell? ⟨g, j, none⟩ = W.cell? ⟨g, j, none⟩ :=
  World.cell?_setCell_other _ _ _ _ (fun e => by have h1 := congrArg Addr.block e; simp only at h1; exact hg (by omega))
theorem keep6 {W : World} {g S j : Nat} {v : Value} (hg : g ≠ S) (x0 x1 x2 x3 x4 x5 : Value) (h : W.cell? ⟨g, j, none⟩ = some v) :
    ((((((W.setCell ⟨S, 0, none⟩ x0).setCell ⟨S, 1, none⟩ x1).setCell ⟨S, 2, none⟩ x2).setCell ⟨S, 3, none⟩ x3).setCell ⟨S, 4, none⟩ x4).setCell ⟨S, 5, none⟩ x5).drew.cell? ⟨g, j, none⟩ = some v := by
  have e : ∀ U : World, U.drew.cell? ⟨g, j, none⟩ = U.cell? ⟨g, j, none⟩ := fun U => rfl
  rw [e, cell_off hg, cell_off hg, cell_off hg, cell_off hg, cell_off hg, cell_off hg]
  exact h
end Go.Proofs.Yteaididdamihlaa
