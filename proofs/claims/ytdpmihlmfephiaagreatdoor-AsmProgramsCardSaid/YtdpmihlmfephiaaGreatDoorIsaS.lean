/- Contracts of the document's functions on instructions' numbers: number, field, below, may, Imm. -/
import Derived.Test.YtdpmihlmfephiaaGreatDoorIsaR
import Derived.Test.YtdpmihlmfephiaaGreatDoorOpsT
namespace Go.Proofs.YtdpmihlmfephiaaGreatDoor
set_option linter.unusedVariables false
set_option maxRecDepth 100000
set_option linter.unusedSimpArgs false
open Go.Joins Go.ChangeShapes Go.WideShapes Go.ChangeAt Go.RowKit

theorem or_bit32 (y k : Nat) (hk : k < 32) : bits .or .u32 ((y % 2 ^ k : Nat) : Int) (((y / 2 ^ k % 2 * 2 ^ k : Nat) : Int)) = ((y % 2 ^ (k + 1) : Nat) : Int) := by
  have h1 : y % 2 ^ k < 2 ^ k := Nat.mod_lt _ (Nat.pow_pos (by decide))
  have h2 : 2 ^ k ≤ 2147483648 := Nat.pow_le_pow_right (by decide : 0 < 2) (by omega : k ≤ 31)
  have h3 : y / 2 ^ k % 2 * 2 ^ k ≤ 1 * 2 ^ k := Nat.mul_le_mul_right _ (by omega)
  rw [u32or _ _ (by omega) (by omega), Nat.or_comm, nat_join k _ _ (by simp) h1, ← mod_step y k]
  congr 1
  rw [Nat.mul_comm]; omega
theorem wnumber_any (N : Nat) (w : World) (hN : N < 4294967296) :
    Calls Tryz.prog 62 #[wordV N] w fun e w' => e = .returned (.int .u32 (N : Int)) ∧ Below w.heap.size w w' := by
  have hend : N % 2 ^ 32 = N := Nat.mod_eq_of_lt hN
  have HEND := Lib.hid hend
  clear hend hN
  unfold wordV
  obtain ⟨A, hA⟩ : ∃ A, (bitsL N).toArray = A := ⟨_, rfl⟩
  rw [hA]
  have B0 := Box32.new w N 88
  rw [hA] at B0
  have X0 := Lib.hid B0
  clear hA B0
  go_enter Tryz.func62, Tryz.ntmps62
  go_wp2_with fail
  go_loop [3, 4] (fun o i => ∃ k : Nat, k ≤ 32 ∧ i = .int .i64 k ∧ o = .int .u32 ((N % 2 ^ k : Nat) : Int)) (fun _ i => 32 - (intOf i).toNat)
  case atStart => exact ⟨0, by omega, rfl, by simp [Nat.mod_one]⟩
  case round =>
    obtain ⟨k, hk, rfl, rfl⟩ := hrel
    by_cases h : k < 32
    · have hc := X0.out.2 k h
      have hb : N / 2 ^ k % 2 < 2 := Nat.mod_lt _ (by decide)
      have HO := Lib.hid (or_bit32 N k h)
      have h2 : 2 ^ k ≤ 2147483648 := Nat.pow_le_pow_right (by decide : 0 < 2) (by omega : k ≤ 31)
      generalize N / 2 ^ k % 2 = b at *
      have hm : ((b : Int) * 2 ^ k) % 4294967296 = ((b * 2 ^ k : Nat) : Int) := by
        have : b * 2 ^ k ≤ 1 * 2 ^ k := Nat.mul_le_mul_right _ (by omega)
        rw [pow_cast, ← Int.natCast_mul]
        omega
      have HM := Lib.hid hm
      clear hm h2
      go_wp2_with fail
      go_round
      case rel =>
        refine ⟨k + 1, by omega, by go_num, ?_⟩
        refine congrArg (Value.int IntKind.u32) ?_
        rw [HM.out, ← HO.out]
        congr 1
      case measure => simp [intOf]; omega
    · obtain rfl : k = 32 := by omega
      rw [HEND.out]
      go_wp2_with fail
      go_ret
      exact ⟨rfl, bAlloc (Below.refl _ _) _⟩
end Go.Proofs.YtdpmihlmfephiaaGreatDoor
