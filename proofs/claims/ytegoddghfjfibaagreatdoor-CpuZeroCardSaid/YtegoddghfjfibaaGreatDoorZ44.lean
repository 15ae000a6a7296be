/- IsaJ -/
import Derived.Test.YtegoddghfjfibaaGreatDoorZ38
import Derived.Test.YtegoddghfjfibaaGreatDoorZ13
namespace Go.Proofs.YtegoddghfjfibaaGreatDoor.Is
set_option linter.unusedVariables false
set_option linter.unusedSimpArgs false
open Go.Joins Go.ChangeShapes Go.WideShapes Go.ChangeAt Go.RowKit

theorem encR_lt (op rd rs1 rs2 n : Int) : encR op rd rs1 rs2 n < 4294967296 := by
  unfold encR
  split
  · rename_i h
    unfold rightB at h
    rw [Bool.and_eq_true, decide_eq_true_iff, Bool.and_eq_true] at h
    obtain ⟨⟨h1, h2⟩, h3, h4⟩ := h
    obtain ⟨⟨x1, y1⟩, ⟨x2, y2⟩, x3, y3⟩ := regs_in _ _ _ _ h3
    exact ((trips op h1 h2).1 rd.toNat rs1.toNat rs2.toNat n (by rw [Int.toNat_of_nonneg x1, Int.toNat_of_nonneg x2, Int.toNat_of_nonneg x3]; exact h3) h4).1
  · decide
theorem back_dec (op rd rs1 rs2 n : Int) (h : rightB op rd rs1 rs2 n = true) :
    (1 ≤ op ∧ op ≤ 82) ∧ DecP (encR op rd rs1 rs2 n) op.toNat ∧ decV (encR op rd rs1 rs2 n) op.toNat = instV op rd rs1 rs2 n := by
  unfold encR
  rw [if_pos h]
  unfold rightB at h
  rw [Bool.and_eq_true, decide_eq_true_iff, Bool.and_eq_true] at h
  obtain ⟨⟨h1, h2⟩, h3, h4⟩ := h
  obtain ⟨⟨x1, y1⟩, ⟨x2, y2⟩, x3, y3⟩ := regs_in _ _ _ _ h3
  obtain ⟨-, a1, a2, a3, a4, a5⟩ := (trips op h1 h2).1 rd.toNat rs1.toNat rs2.toNat n (by rw [Int.toNat_of_nonneg x1, Int.toNat_of_nonneg x2, Int.toNat_of_nonneg x3]; exact h3) h4
  have ho : ((op.toNat : Nat) : Int) = op := Int.toNat_of_nonneg (by omega)
  refine ⟨⟨h1, h2⟩, .inr ⟨by omega, by omega, by rw [ho]; exact a1⟩, ?_⟩
  unfold decV
  rw [if_neg (by omega), ho, a2, a3, a4, a5, Int.toNat_of_nonneg x1, Int.toNat_of_nonneg x2, Int.toNat_of_nonneg x3]
end Go.Proofs.YtegoddghfjfibaaGreatDoor.Is

