/- The laws of numbers and instructions: what is encoded is decoded, and again; no two instructions are one number. -/
import Derived.Test.YtdpmihlmfephiaaGreatDoorIsaH
import Derived.Test.YtdpmihlmfephiaaGreatDoorIsaP
namespace Go.Proofs.YtdpmihlmfephiaaGreatDoor
set_option linter.unusedVariables false
set_option linter.unusedSimpArgs false
open Go.Joins Go.ChangeShapes Go.WideShapes Go.ChangeAt Go.RowKit

theorem encR_lt (op rd rs1 rs2 n : Int) : encR op rd rs1 rs2 n < 4294967296 := by
  unfold encR
  split
  · rename_i h
    unfold rightB at h
    rw [Bool.and_eq_true, decide_eq_true_iff, Bool.and_eq_true] at h
    obtain ⟨⟨h1, h2⟩, h3, h4⟩ := h
    obtain ⟨⟨x1, y1⟩, ⟨x2, y2⟩, x3, y3⟩ := regs_in _ _ _ _ h3
    exact ((trips op h1 h2).1 rd.toNat rs1.toNat rs2.toNat n (by rw [Int.toNat_of_nonneg x1, Int.toNat_of_nonneg x2, Int.toNat_of_nonneg x3]; exact h3) h4).1
  · decide
theorem back_dec (op rd rs1 rs2 n : Int) (h : rightB op rd rs1 rs2 n = true) :
    (1 ≤ op ∧ op ≤ 82) ∧ DecP (encR op rd rs1 rs2 n) op.toNat ∧ decV (encR op rd rs1 rs2 n) op.toNat = instV op rd rs1 rs2 n := by
  unfold encR
  rw [if_pos h]
  unfold rightB at h
  rw [Bool.and_eq_true, decide_eq_true_iff, Bool.and_eq_true] at h
  obtain ⟨⟨h1, h2⟩, h3, h4⟩ := h
  obtain ⟨⟨x1, y1⟩, ⟨x2, y2⟩, x3, y3⟩ := regs_in _ _ _ _ h3
  obtain ⟨-, a1, a2, a3, a4, a5⟩ := (trips op h1 h2).1 rd.toNat rs1.toNat rs2.toNat n (by rw [Int.toNat_of_nonneg x1, Int.toNat_of_nonneg x2, Int.toNat_of_nonneg x3]; exact h3) h4
  have ho : ((op.toNat : Nat) : Int) = op := Int.toNat_of_nonneg (by omega)
  refine ⟨⟨h1, h2⟩, .inr ⟨by omega, by omega, by rw [ho]; exact a1⟩, ?_⟩
  unfold decV
  rw [if_neg (by omega), ho, a2, a3, a4, a5, Int.toNat_of_nonneg x1, Int.toNat_of_nonneg x2, Int.toNat_of_nonneg x3]
theorem again_enc (x r : Nat) (hx : x < 4294967296) (hr : DecP x r) (h0 : r ≠ 0) :
    rightB r (rdN (kindZ (bareN r)) x) (rs1N (kindZ (bareN r)) x) (rs2N (kindZ (bareN r)) x) (immZ (kindZ (bareN r)) (shiftZ (bareN r)) x) = true ∧
      encR r (rdN (kindZ (bareN r)) x) (rs1N (kindZ (bareN r)) x) (rs2N (kindZ (bareN r)) x) (immZ (kindZ (bareN r)) (shiftZ (bareN r)) x) = x := by
  rcases hr with ⟨h, -⟩ | ⟨h1, h2, h3⟩
  · exact absurd h h0
  obtain ⟨a1, a2, a3⟩ := (trips (r : Int) (by omega) (by omega)).2 x hx h3
  have hR : rightB r (rdN (kindZ (bareN r)) x) (rs1N (kindZ (bareN r)) x) (rs2N (kindZ (bareN r)) x) (immZ (kindZ (bareN r)) (shiftZ (bareN r)) x) = true := by
    unfold rightB
    rw [decide_eq_true ⟨by omega, by omega⟩, a1, a2]; rfl
  refine ⟨hR, ?_⟩
  unfold encR
  rw [if_pos hR, Int.toNat_natCast, Int.toNat_natCast, Int.toNat_natCast]
  exact a3
theorem imm_in (x r : Nat) (hx : x < 4294967296) (hr : DecP x r) (h0 : r ≠ 0) : I64 (immZ (kindZ (bareN r)) (shiftZ (bareN r)) x) := by
  have h := (again_enc x r hx hr h0).1
  unfold rightB at h
  rw [Bool.and_eq_true, Bool.and_eq_true] at h
  have h := h.2.2
  generalize immZ (kindZ (bareN r)) (shiftZ (bareN r)) x = n at h ⊢
  unfold immB at h
  unfold I64
  split at h
  · split at h
    · rw [decide_eq_true_iff] at h; omega
    · split at h
      · rw [decide_eq_true_iff] at h; omega
      · rw [decide_eq_true_iff] at h; omega
  · split at h
    · rw [decide_eq_true_iff] at h; omega
    · split at h
      · rw [decide_eq_true_iff] at h; omega
      · split at h
        · rw [decide_eq_true_iff] at h; omega
        · rw [decide_eq_true_iff] at h; omega

theorem enc_inj (a0 a1 a2 a3 a4 b0 b1 b2 b3 b4 : Int) (ha : rightB a0 a1 a2 a3 a4 = true) (hb : rightB b0 b1 b2 b3 b4 = true) (h : encR a0 a1 a2 a3 a4 = encR b0 b1 b2 b3 b4) :
    a0 = b0 ∧ a1 = b1 ∧ a2 = b2 ∧ a3 = b3 ∧ a4 = b4 := by
  obtain ⟨⟨x1, x2⟩, h1, h2⟩ := back_dec a0 a1 a2 a3 a4 ha
  obtain ⟨⟨y1, y2⟩, h3, h4⟩ := back_dec b0 b1 b2 b3 b4 hb
  rw [h] at h1 h2
  have ho : a0.toNat = b0.toNat := by
    rcases h1 with ⟨k, -⟩ | ⟨k1, k2, k3⟩
    · omega
    · rcases h3 with ⟨k, -⟩ | ⟨m1, m2, m3⟩
      · omega
      · exact decP_one _ _ _ k1 k2 m1 m2 k3 m3
  rw [ho, h4] at h2
  unfold instV at h2
  simp only [Value.agg.injEq, Array.mk.injEq, List.cons.injEq, Value.int.injEq, true_and, and_true] at h2
  obtain ⟨e0, e1, e2, e3, e4⟩ := h2
  exact ⟨e0.symm, e1.symm, e2.symm, e3.symm, e4.symm⟩
end Go.Proofs.YtdpmihlmfephiaaGreatDoor
