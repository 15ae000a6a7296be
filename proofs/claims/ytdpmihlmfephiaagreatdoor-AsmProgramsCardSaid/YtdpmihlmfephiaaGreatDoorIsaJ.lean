/- The laws of numbers and instructions: what is encoded is decoded, and again; no two instructions are one number. -/
import Derived.Test.YtdpmihlmfephiaaGreatDoorIsaH
import Derived.Test.YtdpmihlmfephiaaGreatDoorIsaP
namespace Go.Proofs.YtdpmihlmfephiaaGreatDoor
set_option linter.unusedVariables false
set_option linter.unusedSimpArgs false
open Go.Joins Go.ChangeShapes Go.WideShapes Go.ChangeAt Go.RowKit

theorem encR_lt (op rd rs1 rs2 n : Int) : encR op rd rs1 rs2 n < 4294967296 := by
  unfold encR
  split
  · rename_i h
    unfold rightB at h
    rw [Bool.and_eq_true, decide_eq_true_iff, Bool.and_eq_true] at h
    obtain ⟨⟨h1, h2⟩, h3, h4⟩ := h
    obtain ⟨⟨x1, y1⟩, ⟨x2, y2⟩, x3, y3⟩ := regs_in _ _ _ _ h3
    exact ((trips op h1 h2).1 rd.toNat rs1.toNat rs2.toNat n (by rw [Int.toNat_of_nonneg x1, Int.toNat_of_nonneg x2, Int.toNat_of_nonneg x3]; exact h3) h4).1
  · decide
theorem again_enc (x r : Nat) (hx : x < 4294967296) (hr : DecP x r) (h0 : r ≠ 0) :
    rightB r (rdN (kindZ (bareN r)) x) (rs1N (kindZ (bareN r)) x) (rs2N (kindZ (bareN r)) x) (immZ (kindZ (bareN r)) (shiftZ (bareN r)) x) = true ∧
      encR r (rdN (kindZ (bareN r)) x) (rs1N (kindZ (bareN r)) x) (rs2N (kindZ (bareN r)) x) (immZ (kindZ (bareN r)) (shiftZ (bareN r)) x) = x := by
  rcases hr with ⟨h, -⟩ | ⟨h1, h2, h3⟩
  · exact absurd h h0
  obtain ⟨a1, a2, a3⟩ := (trips (r : Int) (by omega) (by omega)).2 x hx h3
  have hR : rightB r (rdN (kindZ (bareN r)) x) (rs1N (kindZ (bareN r)) x) (rs2N (kindZ (bareN r)) x) (immZ (kindZ (bareN r)) (shiftZ (bareN r)) x) = true := by
    unfold rightB
    rw [decide_eq_true ⟨by omega, by omega⟩, a1, a2]; rfl
  refine ⟨hR, ?_⟩
  unfold encR
  rw [if_pos hR, Int.toNat_natCast, Int.toNat_natCast, Int.toNat_natCast]
  exact a3
end Go.Proofs.YtdpmihlmfephiaaGreatDoor
