/- The program's table of names: what the rows' condition says of it; isa.Name. -/
import Derived.Test.YtoijhhacgafblabDoorTie
import Derived.Test.YtoijhhacgafblabDoorCards
import Derived.Test.YtoijhhacgafblabDoorOpsT
import Derived.Test.YtoijhhacgafblabDoorMem
import Derived.Test.YtoijhhacgafblabDoorWb
import Derived.MakeChecks
import Derived.LaidMore
import Derived.Stop.LaidErr
import Derived.OpenShut
import Derived.Lib.Hide
import Derived.WalkKit
import Derived.ProofKit
import Derived.Lib.SmallJoins
namespace Go.Proofs.YtoijhhacgafblabDoor
set_option linter.unusedVariables false
set_option linter.unusedSimpArgs false
open Go.Joins Go.ChangeShapes Go.WideShapes Go.ChangeAt Go.RowKit

/-- the table of names stands in the heap -/
def NT (w : World) : Prop := 0 < w.heap.size ∧ ∀ i : Nat, i < 82 → w.cell? ⟨0, i, none⟩ = some (.string ⟨(opN ((i : Int) + 1)).toArray⟩)
theorem NT.on {w w' : World} (h : NT w) (hb : Below w.heap.size w w') : NT w' :=
  ⟨Nat.lt_of_lt_of_le h.1 hb.size, fun i hi => (hb.cell (p := ⟨0, i, none⟩) h.1).trans (h.2 i hi)⟩
def laid1 : List (String × DataW Unit) := [("curtilage/isa.names", Rows.laid_curtilage_isa_names)]
theorem own : ownKnob Tryd.prog.godebug = none := by kernel_rfl
theorem laidOut : laidOutB Tryd.prog = true := by kernel_rfl
theorem gNames : Tryd.prog.globalNamed "curtilage/isa.names" = some 0 := by kernel_rfl
theorem tNames : (Tryd.prog.globals[0]?).map (·.type) = some 56 := by kernel_rfl
theorem names_datum : (Rows.laid_curtilage_isa_names : DataW Unit) = .agg ((List.range 82).map fun (i : Nat) => .lit (.string (opN ((i : Int) + 1)))) := by kernel_rfl

theorem nt_of {W : World} (h : laidMetH Tryd.prog laid1 W) : NT W := by
  rw [MakeChecks.laidMetH_plain _ _ _ (by kernel_rfl)] at h
  obtain ⟨ps, ⟨g0, t0, cs0, f0, p0, q0, hg0, ht0, hv0, hd0, _, _⟩, _⟩ := h
  obtain rfl := Option.some.inj (gNames.symm.trans hg0)
  obtain rfl := Option.some.inj (tNames.symm.trans ht0)
  rw [names_datum] at hd0
  obtain ⟨xs, m1, hcs, hx1, hlen, hn3, hel⟩ := DataW.trod_array Tryd.underlying56 hd0
  have c1 : Tryd.prog.cellsOf 9 = 1 := by kernel_rfl
  simp only [Prod.mk.injEq, DataW.agg.injEq] at hx1
  have hat : ∀ i : Nat, i < 82 → W.cell? ⟨0, i, none⟩ = some (.string ⟨(opN ((i : Int) + 1)).toArray⟩) := fun i hi => by
    have h := hel i hi
    rw [c1, Nat.mul_one, List.getElem?_eq_getElem (by omega)] at h
    obtain ⟨s, hs, hx, _⟩ := DataW.trod_string Tryd.underlying9 h
    have hm : (xs.map (·.1))[i]? = some (xs[i]'(by omega)).1 := by simp [show i < xs.length by omega]
    rw [← hx1.1, hx] at hm
    simp only [List.getElem?_map, List.getElem?_range hi, Option.map_some, Option.some.injEq, DataW.lit.injEq, Lit.string.injEq] at hm
    have hc := World.var?_cell gNames hv0 i
    have hl : cs0.toList[i]? = some (.string s) := by
      have := congrArg (·[0]?) hs
      simpa [List.getElem?_take, List.getElem?_drop] using this
    rw [hc, ← Array.getElem?_toList, hl]
    congr 2
    obtain ⟨⟨d⟩⟩ := s
    simp only at hm
    rw [hm]
  exact ⟨heap_lt_of_cell (hat 0 (by decide)), hat⟩
end Go.Proofs.YtoijhhacgafblabDoor
