/- The document's bits of two words. -/
import Derived.Test.YtoijhhacgafblabDoorAluG
namespace Go.Proofs.YtoijhhacgafblabDoor
set_option linter.unusedVariables false
set_option linter.unusedSimpArgs false
open Go.ChangeShapes Go.WideShapes Go.ChangeAt Go.RowKit

theorem bstep_yes (Y k : Nat) (hk : k < 64) (hY : Y < 18446744073709551616) (h : Y / 2 ^ k % 2 = 1) : IntKind.u64.wrap (((Y % 2 ^ k : Nat) : Int) + IntKind.u64.wrap (2 ^ k)) = ((Y % 2 ^ (k + 1) : Nat) : Int) := by
  have e := mod_step Y k
  rw [h, Nat.mul_one] at e
  have := pow_lt64 hk
  have hm : Y % 2 ^ k < 2 ^ k := Nat.mod_lt _ (pow_pos' k)
  rw [shl_one k hk, IntKind.wrap_u64, ← e]
  omega
theorem bstep_no (Y k : Nat) (h : ¬ Y / 2 ^ k % 2 = 1) : ((Y % 2 ^ k : Nat) : Int) = ((Y % 2 ^ (k + 1) : Nat) : Int) := by
  have e := mod_step Y k
  rw [show Y / 2 ^ k % 2 = 0 by omega, Nat.mul_zero, Nat.add_zero] at e
  rw [e]
theorem test_and (a b k : Nat) (ha : a < 18446744073709551616) (hb : b < 18446744073709551616) : (IntKind.u64.wrap (bits .and .u64 ((a : Int) / 2 ^ k) 1 + bits .and .u64 ((b : Int) / 2 ^ k) 1) == 2) = decide ((a &&& b) / 2 ^ k % 2 = 1) := by
  rw [bit_form a k ha, bit_form b k hb, bit_of (a &&& b) k, Nat.testBit_and, Nat.testBit_eq_decide_div_mod_eq, Nat.testBit_eq_decide_div_mod_eq, IntKind.wrap_u64]
  have h1 : a / 2 ^ k % 2 < 2 := Nat.mod_lt _ (by decide)
  have h2 : b / 2 ^ k % 2 < 2 := Nat.mod_lt _ (by decide)
  generalize a / 2 ^ k % 2 = x at *
  generalize b / 2 ^ k % 2 = y at *
  rcases (show x = 0 ∨ x = 1 by omega) with rfl | rfl <;> rcases (show y = 0 ∨ y = 1 by omega) with rfl | rfl <;> rfl

theorem rbitand_any (a b : Nat) (w : World) (ha : a < 18446744073709551616) (hb : b < 18446744073709551616) :
    Calls Tryd.prog 27 #[.int .u64 a, .int .u64 b, .int .i64 1] w fun e w' => e = .returned (.int .u64 ((a &&& b : Nat) : Int)) ∧ w = w' := by
  go_enter Tryd.func27, Tryd.ntmps27
  go_wp2
  have hY : (a &&& b) < 18446744073709551616 := Nat.lt_of_le_of_lt Nat.and_le_left ha
  have HT := Lib.hid (fun k => test_and a b k ha hb)
  generalize hYY : (a &&& b) = Y at *
  have HYY := Lib.hid hYY
  clear hYY
  go_loop [7, 8] (fun o i => ∃ k : Nat, k ≤ 64 ∧ i = .int .i64 k ∧ o = .int .u64 ((Y % 2 ^ k : Nat) : Int)) (fun _ i => 64 - (intOf i).toNat)
  case atStart => exact ⟨0, by omega, rfl, by simp [Nat.mod_one]⟩
  case round =>
    obtain ⟨k, hk, rfl, rfl⟩ := hrel
    by_cases hlt : k < 64
    · have ht := HT.out k
      have HYES := Lib.hid (bstep_yes Y k hlt hY)
      have HNO := Lib.hid (bstep_no Y k)
      by_cases hc : Y / 2 ^ k % 2 = 1
      · rw [decide_eq_true hc] at ht
        have HZ := Lib.hid (HYES.out hc)
        clear hc
        generalize Y % 2 ^ k = M at *
        go_wp2
        go_round
        case rel => exact ⟨k + 1, by omega, by go_num, by rw [← HZ.out]⟩
        case measure => simp [intOf]; omega
      · rw [decide_eq_false hc] at ht
        have HZ := Lib.hid (HNO.out hc)
        clear hc
        generalize Y % 2 ^ k = M at *
        go_wp2
        go_round
        case rel => exact ⟨k + 1, by omega, by go_num, by rw [← HZ.out]⟩
        case measure => simp [intOf]; omega
    · obtain rfl : k = 64 := by omega
      have hE : Y % 2 ^ 64 = Y := Nat.mod_eq_of_lt hY
      have HE := Lib.hid hE
      clear hE
      go_wp2
      go_ret
      exact ⟨ret_int (by rw [HYY.out]; omega), rfl⟩

theorem test_or (a b k : Nat) (ha : a < 18446744073709551616) (hb : b < 18446744073709551616) : decide (0 < IntKind.u64.wrap (bits .and .u64 ((a : Int) / 2 ^ k) 1 + bits .and .u64 ((b : Int) / 2 ^ k) 1)) = decide ((a ||| b) / 2 ^ k % 2 = 1) := by
  rw [bit_form a k ha, bit_form b k hb, bit_of (a ||| b) k, Nat.testBit_or, Nat.testBit_eq_decide_div_mod_eq, Nat.testBit_eq_decide_div_mod_eq, IntKind.wrap_u64]
  have h1 : a / 2 ^ k % 2 < 2 := Nat.mod_lt _ (by decide)
  have h2 : b / 2 ^ k % 2 < 2 := Nat.mod_lt _ (by decide)
  generalize a / 2 ^ k % 2 = x at *
  generalize b / 2 ^ k % 2 = y at *
  rcases (show x = 0 ∨ x = 1 by omega) with rfl | rfl <;> rcases (show y = 0 ∨ y = 1 by omega) with rfl | rfl <;> rfl

theorem rbitor_any (a b : Nat) (w : World) (ha : a < 18446744073709551616) (hb : b < 18446744073709551616) :
    Calls Tryd.prog 27 #[.int .u64 a, .int .u64 b, .int .i64 2] w fun e w' => e = .returned (.int .u64 ((a ||| b : Nat) : Int)) ∧ w = w' := by
  go_enter Tryd.func27, Tryd.ntmps27
  go_wp2
  have hY : (a ||| b) < 18446744073709551616 := Nat.or_lt_two_pow (n := 64) ha hb
  have HT := Lib.hid (fun k => test_or a b k ha hb)
  generalize hYY : (a ||| b) = Y at *
  have HYY := Lib.hid hYY
  clear hYY
  go_loop [7, 8] (fun o i => ∃ k : Nat, k ≤ 64 ∧ i = .int .i64 k ∧ o = .int .u64 ((Y % 2 ^ k : Nat) : Int)) (fun _ i => 64 - (intOf i).toNat)
  case atStart => exact ⟨0, by omega, rfl, by simp [Nat.mod_one]⟩
  case round =>
    obtain ⟨k, hk, rfl, rfl⟩ := hrel
    by_cases hlt : k < 64
    · have ht := HT.out k
      have HYES := Lib.hid (bstep_yes Y k hlt hY)
      have HNO := Lib.hid (bstep_no Y k)
      by_cases hc : Y / 2 ^ k % 2 = 1
      · rw [decide_eq_true hc] at ht
        have HZ := Lib.hid (HYES.out hc)
        clear hc
        generalize Y % 2 ^ k = M at *
        go_wp2
        go_round
        case rel => exact ⟨k + 1, by omega, by go_num, by rw [← HZ.out]⟩
        case measure => simp [intOf]; omega
      · rw [decide_eq_false hc] at ht
        have HZ := Lib.hid (HNO.out hc)
        clear hc
        generalize Y % 2 ^ k = M at *
        go_wp2
        go_round
        case rel => exact ⟨k + 1, by omega, by go_num, by rw [← HZ.out]⟩
        case measure => simp [intOf]; omega
    · obtain rfl : k = 64 := by omega
      have hE : Y % 2 ^ 64 = Y := Nat.mod_eq_of_lt hY
      have HE := Lib.hid hE
      clear hE
      go_wp2
      go_ret
      exact ⟨ret_int (by rw [HYY.out]; omega), rfl⟩

theorem test_xor (a b k : Nat) (ha : a < 18446744073709551616) (hb : b < 18446744073709551616) : (IntKind.u64.wrap (bits .and .u64 ((a : Int) / 2 ^ k) 1 + bits .and .u64 ((b : Int) / 2 ^ k) 1) == 1) = decide ((a ^^^ b) / 2 ^ k % 2 = 1) := by
  rw [bit_form a k ha, bit_form b k hb, bit_of (a ^^^ b) k, Nat.testBit_xor, Nat.testBit_eq_decide_div_mod_eq, Nat.testBit_eq_decide_div_mod_eq, IntKind.wrap_u64]
  have h1 : a / 2 ^ k % 2 < 2 := Nat.mod_lt _ (by decide)
  have h2 : b / 2 ^ k % 2 < 2 := Nat.mod_lt _ (by decide)
  generalize a / 2 ^ k % 2 = x at *
  generalize b / 2 ^ k % 2 = y at *
  rcases (show x = 0 ∨ x = 1 by omega) with rfl | rfl <;> rcases (show y = 0 ∨ y = 1 by omega) with rfl | rfl <;> rfl

theorem rbitxor_any (a b : Nat) (w : World) (ha : a < 18446744073709551616) (hb : b < 18446744073709551616) :
    Calls Tryd.prog 27 #[.int .u64 a, .int .u64 b, .int .i64 3] w fun e w' => e = .returned (.int .u64 ((a ^^^ b : Nat) : Int)) ∧ w = w' := by
  go_enter Tryd.func27, Tryd.ntmps27
  go_wp2
  have hY : (a ^^^ b) < 18446744073709551616 := Nat.xor_lt_two_pow (n := 64) ha hb
  have HT := Lib.hid (fun k => test_xor a b k ha hb)
  generalize hYY : (a ^^^ b) = Y at *
  have HYY := Lib.hid hYY
  clear hYY
  go_loop [7, 8] (fun o i => ∃ k : Nat, k ≤ 64 ∧ i = .int .i64 k ∧ o = .int .u64 ((Y % 2 ^ k : Nat) : Int)) (fun _ i => 64 - (intOf i).toNat)
  case atStart => exact ⟨0, by omega, rfl, by simp [Nat.mod_one]⟩
  case round =>
    obtain ⟨k, hk, rfl, rfl⟩ := hrel
    by_cases hlt : k < 64
    · have ht := HT.out k
      have HYES := Lib.hid (bstep_yes Y k hlt hY)
      have HNO := Lib.hid (bstep_no Y k)
      by_cases hc : Y / 2 ^ k % 2 = 1
      · rw [decide_eq_true hc] at ht
        have HZ := Lib.hid (HYES.out hc)
        clear hc
        generalize Y % 2 ^ k = M at *
        go_wp2
        go_round
        case rel => exact ⟨k + 1, by omega, by go_num, by rw [← HZ.out]⟩
        case measure => simp [intOf]; omega
      · rw [decide_eq_false hc] at ht
        have HZ := Lib.hid (HNO.out hc)
        clear hc
        generalize Y % 2 ^ k = M at *
        go_wp2
        go_round
        case rel => exact ⟨k + 1, by omega, by go_num, by rw [← HZ.out]⟩
        case measure => simp [intOf]; omega
    · obtain rfl : k = 64 := by omega
      have hE : Y % 2 ^ 64 = Y := Nat.mod_eq_of_lt hY
      have HE := Lib.hid hE
      clear hE
      go_wp2
      go_ret
      exact ⟨ret_int (by rw [HYY.out]; omega), rfl⟩
end Go.Proofs.YtoijhhacgafblabDoor
