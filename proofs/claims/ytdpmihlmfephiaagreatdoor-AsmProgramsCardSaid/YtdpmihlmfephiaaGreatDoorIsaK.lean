/- The law of names: any number, any name. -/
import Derived.Test.YtdpmihlmfephiaaGreatDoorIsaO
import Derived.Test.YtdpmihlmfephiaaGreatDoorIsaH
namespace Go.Proofs.YtdpmihlmfephiaaGreatDoor
set_option linter.unusedVariables false
set_option maxRecDepth 100000
set_option linter.unusedSimpArgs false
open Go.Joins Go.ChangeShapes Go.WideShapes Go.ChangeAt Go.RowKit

def kindChk : Bool := (List.range 82).all fun i => (opR ((i : Int) + 1)).2.1 == kindZ (bareN ((i : Int) + 1))
theorem kind_same (op : Int) : (opR op).2.1 = kindO op := by
  unfold kindO
  by_cases h : 1 ≤ op ∧ op ≤ 82
  · rw [if_pos h]
    have hk : kindChk = true := by decide +kernel
    unfold kindChk at hk
    rw [List.all_eq_true] at hk
    have := hk (op.toNat - 1) (List.mem_range.mpr (by omega))
    rw [show (((op.toNat - 1 : Nat) : Int) + 1) = op by omega, beq_iff_eq] at this
    exact this
  · rw [if_neg h]
    unfold opR
    rw [if_neg h]
def namesChk : Bool := (List.range 82).all fun i => !(opN ((i : Int) + 1) == []) && ((List.range i).all fun k => !(opN ((k : Int) + 1) == opN ((i : Int) + 1)))
theorem names_ok : namesChk = true := by decide +kernel
theorem name_some (op : Int) (h1 : 1 ≤ op) (h2 : op ≤ 82) : (opN op == []) = false := by
  have h := names_ok
  unfold namesChk at h
  rw [List.all_eq_true] at h
  have := h (op.toNat - 1) (List.mem_range.mpr (by omega))
  rw [show (((op.toNat - 1 : Nat) : Int) + 1) = op by omega, Bool.and_eq_true, Bool.not_eq_true'] at this
  exact this.1
end Go.Proofs.YtdpmihlmfephiaaGreatDoor
