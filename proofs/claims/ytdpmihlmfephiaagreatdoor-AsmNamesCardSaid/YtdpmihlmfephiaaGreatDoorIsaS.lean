/- Contracts of the document's functions on instructions' numbers: number, field, below, may, Imm. -/
import Derived.Test.YtdpmihlmfephiaaGreatDoorIsaR
import Derived.Test.YtdpmihlmfephiaaGreatDoorOpsT
namespace Go.Proofs.YtdpmihlmfephiaaGreatDoor
set_option linter.unusedVariables false
set_option linter.unusedSimpArgs false
open Go.Joins Go.ChangeShapes Go.WideShapes Go.ChangeAt Go.RowKit

theorem or_bit32 (y k : Nat) (hk : k < 32) : bits .or .u32 ((y % 2 ^ k : Nat) : Int) (((y / 2 ^ k % 2 * 2 ^ k : Nat) : Int)) = ((y % 2 ^ (k + 1) : Nat) : Int) := by
  have h1 : y % 2 ^ k < 2 ^ k := Nat.mod_lt _ (Nat.pow_pos (by decide))
  have h2 : 2 ^ k ≤ 2147483648 := Nat.pow_le_pow_right (by decide : 0 < 2) (by omega : k ≤ 31)
  have h3 : y / 2 ^ k % 2 * 2 ^ k ≤ 1 * 2 ^ k := Nat.mul_le_mul_right _ (by omega)
  rw [u32or _ _ (by omega) (by omega), Nat.or_comm, nat_join k _ _ (by simp) h1, ← mod_step y k]
  congr 1
  rw [Nat.mul_comm]; omega
theorem wnumber_any (N : Nat) (w : World) (hN : N < 4294967296) :
    Calls Tryz.prog 62 #[wordV N] w fun e w' => e = .returned (.int .u32 (N : Int)) ∧ Below w.heap.size w w' := by
  have hend : N % 2 ^ 32 = N := Nat.mod_eq_of_lt hN
  have HEND := Lib.hid hend
  clear hend hN
  unfold wordV
  obtain ⟨A, hA⟩ : ∃ A, (bitsL N).toArray = A := ⟨_, rfl⟩
  rw [hA]
  have B0 := Box32.new w N 88
  rw [hA] at B0
  have X0 := Lib.hid B0
  clear hA B0
  go_enter Tryz.func62, Tryz.ntmps62
  go_wp2_with fail
  go_loop [3, 4] (fun o i => ∃ k : Nat, k ≤ 32 ∧ i = .int .i64 k ∧ o = .int .u32 ((N % 2 ^ k : Nat) : Int)) (fun _ i => 32 - (intOf i).toNat)
  case atStart => exact ⟨0, by omega, rfl, by simp [Nat.mod_one]⟩
  case round =>
    obtain ⟨k, hk, rfl, rfl⟩ := hrel
    by_cases h : k < 32
    · have hc := X0.out.2 k h
      have hb : N / 2 ^ k % 2 < 2 := Nat.mod_lt _ (by decide)
      have HO := Lib.hid (or_bit32 N k h)
      have h2 : 2 ^ k ≤ 2147483648 := Nat.pow_le_pow_right (by decide : 0 < 2) (by omega : k ≤ 31)
      generalize N / 2 ^ k % 2 = b at *
      have hm : ((b : Int) * 2 ^ k) % 4294967296 = ((b * 2 ^ k : Nat) : Int) := by
        have : b * 2 ^ k ≤ 1 * 2 ^ k := Nat.mul_le_mul_right _ (by omega)
        rw [pow_cast, ← Int.natCast_mul]
        omega
      have HM := Lib.hid hm
      clear hm h2
      go_wp2_with fail
      go_round
      case rel =>
        refine ⟨k + 1, by omega, by go_num, ?_⟩
        refine congrArg (Value.int IntKind.u32) ?_
        rw [HM.out, ← HO.out]
        congr 1
      case measure => simp [intOf]; omega
    · obtain rfl : k = 32 := by omega
      rw [HEND.out]
      go_wp2_with fail
      go_ret
      exact ⟨rfl, bAlloc (Below.refl _ _) _⟩
theorem rfield_step (x f k : Nat) : x / 2 ^ f % 2 ^ k + x / 2 ^ (f + k) % 2 * 2 ^ k = x / 2 ^ f % 2 ^ (k + 1) := by
  rw [← mod_step (x / 2 ^ f) k, Nat.div_div_eq_div_mul, ← Nat.pow_add, Nat.mul_comm (2 ^ k)]
theorem rfield_val (x f k : Nat) (hx : x < 4294967296) (hk : f + k < 32) :
    wrap64 ((x : Int) / 2 ^ f % 2 ^ k + wrap64 (wrap64 (bits .and .u32 ((x : Int) / 2 ^ (f + k)) 1) * 2 ^ k)) = ((x / 2 ^ f % 2 ^ (k + 1) : Nat) : Int) := by
  have hq : x / 2 ^ (f + k) < 4294967296 := Nat.lt_of_le_of_lt (Nat.div_le_self _ _) hx
  have ha : bits .and .u32 ((x : Int) / 2 ^ (f + k)) 1 = ((x / 2 ^ (f + k) % 2 : Nat) : Int) := by
    rw [ediv_nat]
    have := u32_and_nat (x / 2 ^ (f + k)) 1 hq (by decide)
    rw [nat_mask1] at this
    exact this
  rw [ha, show (x : Int) / 2 ^ f % 2 ^ k = ((x / 2 ^ f % 2 ^ k : Nat) : Int) by rw [ediv_nat, pow_cast]; simp, ← rfield_step]
  have h1 : x / 2 ^ f % 2 ^ k < 2 ^ k := Nat.mod_lt _ (Nat.pow_pos (by decide))
  have h2 : 2 ^ k ≤ 2147483648 := Nat.pow_le_pow_right (by decide : 0 < 2) (by omega : k ≤ 31)
  have h3 : x / 2 ^ (f + k) % 2 < 2 := Nat.mod_lt _ (by decide)
  rw [pow_cast]
  generalize x / 2 ^ (f + k) % 2 = b at *
  generalize x / 2 ^ f % 2 ^ k = c at *
  generalize 2 ^ k = p at *
  have hb : b = 0 ∨ b = 1 := by omega
  simp only [wrap64]
  rcases hb with rfl | rfl <;> omega
theorem rfield_any (x f m : Nat) (w : World) (hx : x < 4294967296) (hf : f + m ≤ 32) :
    Calls Tryz.prog 92 #[.int .u32 (x : Int), .int .i64 (f : Int), .int .i64 (m : Int)] w fun e w' => e = .returned (.int .i64 ((x / 2 ^ f % 2 ^ m : Nat) : Int)) ∧ w = w' := by
  go_enter Tryz.func92, Tryz.ntmps92
  go_wp2_with fail
  go_loop [7, 8] (fun o i => ∃ k : Nat, k ≤ m ∧ i = .int .i64 k ∧ o = .int .i64 ((x / 2 ^ f % 2 ^ k : Nat) : Int)) (fun _ i => m - (intOf i).toNat)
  case atStart => exact ⟨0, by omega, rfl, by simp [Nat.mod_one]⟩
  case round =>
    obtain ⟨k, hk, rfl, rfl⟩ := hrel
    by_cases h : k < m
    · have HV := Lib.hid (rfield_val x f k hx (by omega))
      go_wp2_with fail
      go_round
      case rel => exact ⟨k + 1, by omega, by go_num, congrArg (Value.int IntKind.i64) HV.out⟩
      case measure => simp [intOf]; omega
    · obtain rfl : k = m := by omega
      go_wp2_with fail
      go_ret
      exact ⟨rfl, rfl⟩
theorem rbelow12 (x : Nat) (w : World) (hx : x < 4096) :
    Calls Tryz.prog 122 #[.int .i64 (x : Int), .int .i64 12] w fun e w' => e = .returned (.int .i64 (sgI x 12)) ∧ w = w' := by
  have e : sgI x 12 = if x < 2048 then (x : Int) else (x : Int) - 4096 := by
    unfold sgI
    simp only [show (2 : Nat) ^ (12 - 1) = 2048 by decide, show (2 : Int) ^ 12 = 4096 by decide]
  rw [e]
  by_cases h : x < 2048
  · rw [if_pos h]
    have hd : decide ((x : Int) < 2048) = true := decide_eq_true (by omega)
    have hd2 : decide ((2048 : Int) ≤ (x : Int)) = false := decide_eq_false (by omega)
    clear e
    go_enter Tryz.func122, Tryz.ntmps122
    go_wp2_with fail
    go_ret
    exact ⟨rfl, rfl⟩
  · rw [if_neg h]
    have hd : decide ((x : Int) < 2048) = false := decide_eq_false (by omega)
    have hd2 : decide ((2048 : Int) ≤ (x : Int)) = true := decide_eq_true (by omega)
    clear e
    go_enter Tryz.func122, Tryz.ntmps122
    go_wp2_with fail
    go_ret
    exact ⟨rfl, rfl⟩
theorem rbelow13 (x : Nat) (w : World) (hx : x < 8192) :
    Calls Tryz.prog 122 #[.int .i64 (x : Int), .int .i64 13] w fun e w' => e = .returned (.int .i64 (sgI x 13)) ∧ w = w' := by
  have e : sgI x 13 = if x < 4096 then (x : Int) else (x : Int) - 8192 := by
    unfold sgI
    simp only [show (2 : Nat) ^ (13 - 1) = 4096 by decide, show (2 : Int) ^ 13 = 8192 by decide]
  rw [e]
  by_cases h : x < 4096
  · rw [if_pos h]
    have hd : decide ((x : Int) < 4096) = true := decide_eq_true (by omega)
    have hd2 : decide ((4096 : Int) ≤ (x : Int)) = false := decide_eq_false (by omega)
    clear e
    go_enter Tryz.func122, Tryz.ntmps122
    go_wp2_with fail
    go_ret
    exact ⟨rfl, rfl⟩
  · rw [if_neg h]
    have hd : decide ((x : Int) < 4096) = false := decide_eq_false (by omega)
    have hd2 : decide ((4096 : Int) ≤ (x : Int)) = true := decide_eq_true (by omega)
    clear e
    go_enter Tryz.func122, Tryz.ntmps122
    go_wp2_with fail
    go_ret
    exact ⟨rfl, rfl⟩
theorem rbelow21 (x : Nat) (w : World) (hx : x < 2097152) :
    Calls Tryz.prog 122 #[.int .i64 (x : Int), .int .i64 21] w fun e w' => e = .returned (.int .i64 (sgI x 21)) ∧ w = w' := by
  have e : sgI x 21 = if x < 1048576 then (x : Int) else (x : Int) - 2097152 := by
    unfold sgI
    simp only [show (2 : Nat) ^ (21 - 1) = 1048576 by decide, show (2 : Int) ^ 21 = 2097152 by decide]
  rw [e]
  by_cases h : x < 1048576
  · rw [if_pos h]
    have hd : decide ((x : Int) < 1048576) = true := decide_eq_true (by omega)
    have hd2 : decide ((1048576 : Int) ≤ (x : Int)) = false := decide_eq_false (by omega)
    clear e
    go_enter Tryz.func122, Tryz.ntmps122
    go_wp2_with fail
    go_ret
    exact ⟨rfl, rfl⟩
  · rw [if_neg h]
    have hd : decide ((x : Int) < 1048576) = false := decide_eq_false (by omega)
    have hd2 : decide ((1048576 : Int) ≤ (x : Int)) = true := decide_eq_true (by omega)
    clear e
    go_enter Tryz.func122, Tryz.ntmps122
    go_wp2_with fail
    go_ret
    exact ⟨rfl, rfl⟩
theorem rbelow32 (x : Nat) (w : World) (hx : x < 4294967296) :
    Calls Tryz.prog 122 #[.int .i64 (x : Int), .int .i64 32] w fun e w' => e = .returned (.int .i64 (sgI x 32)) ∧ w = w' := by
  have e : sgI x 32 = if x < 2147483648 then (x : Int) else (x : Int) - 4294967296 := by
    unfold sgI
    simp only [show (2 : Nat) ^ (32 - 1) = 2147483648 by decide, show (2 : Int) ^ 32 = 4294967296 by decide]
  rw [e]
  by_cases h : x < 2147483648
  · rw [if_pos h]
    have hd : decide ((x : Int) < 2147483648) = true := decide_eq_true (by omega)
    have hd2 : decide ((2147483648 : Int) ≤ (x : Int)) = false := decide_eq_false (by omega)
    clear e
    go_enter Tryz.func122, Tryz.ntmps122
    go_wp2_with fail
    go_ret
    exact ⟨rfl, rfl⟩
  · rw [if_neg h]
    have hd : decide ((x : Int) < 2147483648) = false := decide_eq_false (by omega)
    have hd2 : decide ((2147483648 : Int) ≤ (x : Int)) = true := decide_eq_true (by omega)
    clear e
    go_enter Tryz.func122, Tryz.ntmps122
    go_wp2_with fail
    go_ret
    exact ⟨rfl, rfl⟩
end Go.Proofs.YtdpmihlmfephiaaGreatDoor
