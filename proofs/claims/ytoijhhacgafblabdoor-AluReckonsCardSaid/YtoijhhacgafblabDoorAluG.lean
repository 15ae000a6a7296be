/- The document's own reckoning, in parts. -/
import Derived.Test.YtoijhhacgafblabDoorAluB
import Derived.Test.YtoijhhacgafblabDoorWb
namespace Go.Proofs.YtoijhhacgafblabDoor
set_option linter.unusedVariables false
set_option linter.unusedSimpArgs false
open Go.ChangeShapes Go.WideShapes Go.ChangeAt Go.RowKit

theorem up_step (a : Int) (k : Nat) : IntKind.u64.wrap (IntKind.u64.wrap (a * 2 ^ k) * 2) = IntKind.u64.wrap (a * 2 ^ (k + 1)) := by
  rw [← two_pow a k, IntKind.wrap_u64, IntKind.wrap_u64, IntKind.wrap_u64]; omega
theorem rup_any (a n : Nat) (w : World) (ha : a < 18446744073709551616) (hn : n < 64) :
    Calls Tryd.prog 24 #[.int .u64 a, .int .u64 n] w fun e w' => e = .returned (.int .u64 (IntKind.u64.wrap (a * 2 ^ n))) ∧ w = w' := by
  go_enter Tryd.func24, Tryd.ntmps24
  go_wp2
  go_loop [0, 5] (fun o i => ∃ k : Nat, k ≤ n ∧ i = .int .u64 k ∧ o = .int .u64 (IntKind.u64.wrap ((a : Int) * 2 ^ k))) (fun _ i => n - (intOf i).toNat)
  case atStart => exact ⟨0, by omega, rfl, by rw [IntKind.wrap_u64]; simp; omega⟩
  case round =>
    obtain ⟨k, hk, rfl, rfl⟩ := hrel
    have HS := Lib.hid (up_step a k)
    generalize hA : IntKind.u64.wrap ((a : Int) * 2 ^ k) = A at *
    have HA := Lib.hid hA
    clear hA
    by_cases hlt : k < n
    · go_wp2
      go_round
      case rel => exact ⟨k + 1, by omega, by go_num, by rw [← HS.out]⟩
      case measure => simp [intOf]; omega
    · obtain rfl : k = n := by omega
      go_wp2
      go_ret
      exact ⟨ret_int HA.out.symm, rfl⟩

theorem down_step0 (a k : Nat) : ((a / 2 ^ k / 2 : Nat) : Int) = ((a / 2 ^ (k + 1) : Nat) : Int) := by rw [Nat.div_div_eq_div_mul, Nat.pow_succ]
theorem rdown0_any (a n : Nat) (w : World) (ha : a < 18446744073709551616) (hn : n < 64) :
    Calls Tryd.prog 28 #[.int .u64 a, .int .u64 n, .int .u64 0] w fun e w' => e = .returned (.int .u64 ((a / 2 ^ n : Nat) : Int)) ∧ w = w' := by
  go_enter Tryd.func28, Tryd.ntmps28
  go_wp2
  go_loop [0, 7] (fun o i => ∃ k : Nat, k ≤ n ∧ i = .int .u64 k ∧ o = .int .u64 ((a / 2 ^ k : Nat) : Int)) (fun _ i => n - (intOf i).toNat)
  case atStart => exact ⟨0, by omega, rfl, by simp⟩
  case round =>
    obtain ⟨k, hk, rfl, rfl⟩ := hrel
    have HS := Lib.hid (down_step0 a k)
    have hd := div_lt a k ha
    generalize hA : a / 2 ^ k = A at *
    have HA := Lib.hid hA
    clear hA
    by_cases hlt : k < n
    · go_wp2
      go_round
      case rel => exact ⟨k + 1, by omega, by go_num, by rw [← HS.out]; go_num⟩
      case measure => simp [intOf]; omega
    · obtain rfl : k = n := by omega
      go_wp2
      go_ret
      exact ⟨ret_int (by rw [ediv_nat, HA.out]), rfl⟩
theorem sar_step (s : Int) (k : Nat) (h0 : -9223372036854775808 ≤ s / 2 ^ k) (h1 : s / 2 ^ k ≤ -1) :
    IntKind.u64.wrap (IntKind.u64.wrap (s / 2 ^ k) / 2 + 9223372036854775808) = IntKind.u64.wrap (s / 2 ^ (k + 1)) := by
  have e : s / 2 ^ (k + 1) = s / 2 ^ k / 2 := by rw [Int.pow_succ, Int.ediv_ediv_of_nonneg (by exact Int.le_of_lt (Int.pow_pos (by decide)))]
  rw [e, IntKind.wrap_u64, IntKind.wrap_u64, IntKind.wrap_u64]
  generalize s / 2 ^ k = q at *
  omega
theorem sar_in (s : Int) (k : Nat) (h0 : -9223372036854775808 ≤ s) (h1 : s ≤ -1) : -9223372036854775808 ≤ s / 2 ^ k ∧ s / 2 ^ k ≤ -1 := by
  have hp : (0 : Int) < 2 ^ k := Int.pow_pos (by decide)
  constructor
  · refine Int.le_ediv_of_mul_le hp ?_
    generalize (2 : Int) ^ k = x at *
    omega
  · have := Int.ediv_lt_of_lt_mul hp (show s < 0 * 2 ^ k by omega)
    omega
theorem rdown1_any (a n : Nat) (w : World) (ha : a < 18446744073709551616) (ha2 : 9223372036854775808 ≤ a) (hn : n < 64) :
    Calls Tryd.prog 28 #[.int .u64 a, .int .u64 n, .int .u64 1] w fun e w' => e = .returned (.int .u64 (IntKind.u64.wrap (wrap64 a / 2 ^ n))) ∧ w = w' := by
  have hs : wrap64 (a : Int) = (a : Int) - 18446744073709551616 := by unfold wrap64; omega
  have hb := fun k => sar_in (wrap64 (a : Int)) k (by omega) (by omega)
  have h0 : (a : Int) = IntKind.u64.wrap (wrap64 a / 2 ^ 0) := by rw [IntKind.wrap_u64, hs]; simp; omega
  have HSTEP := Lib.hid (fun k => sar_step (wrap64 (a : Int)) k (hb k).1 (hb k).2)
  have H0 := Lib.hid h0
  clear h0 hb hs
  generalize wrap64 (a : Int) = s at *
  go_enter Tryd.func28, Tryd.ntmps28
  go_wp2
  go_loop [0, 7] (fun o i => ∃ k : Nat, k ≤ n ∧ i = .int .u64 k ∧ o = .int .u64 (IntKind.u64.wrap (s / 2 ^ k))) (fun _ i => n - (intOf i).toNat)
  case atStart => exact ⟨0, by omega, rfl, by rw [← H0.out]⟩
  case round =>
    obtain ⟨k, hk, rfl, rfl⟩ := hrel
    have HS := Lib.hid (HSTEP.out k)
    have hw := wrap_u64_in (s / 2 ^ k)
    generalize hA : IntKind.u64.wrap (s / 2 ^ k) = A at *
    have HA := Lib.hid hA
    clear hA
    by_cases hlt : k < n
    · go_wp2
      go_round
      case rel => exact ⟨k + 1, by omega, by go_num, by rw [← HS.out]; refine congrArg (Value.int IntKind.u64) ?_; rw [IntKind.wrap_u64]; omega⟩
      case measure => simp [intOf]; omega
    · obtain rfl : k = n := by omega
      go_wp2
      go_ret
      exact ⟨ret_int HA.out.symm, rfl⟩

theorem xor_63 (y : Nat) (h : y < 9223372036854775808) : y ^^^ 9223372036854775808 = 9223372036854775808 + y := by
  have e := Nat.two_pow_add_eq_or_of_lt (i := 63) (b := y) h 1
  rw [show (2 : Nat) ^ 63 = 9223372036854775808 from rfl, Nat.mul_one] at e
  rw [e]
  apply Nat.eq_of_testBit_eq
  intro i
  rw [Nat.testBit_xor, Nat.testBit_or, show (9223372036854775808 : Nat) = 2 ^ 63 from rfl, Nat.testBit_two_pow]
  by_cases hi : 63 = i
  · subst hi
    rw [Nat.testBit_lt_two_pow (show y < 2 ^ 63 from h)]; rfl
  · simp [hi]
theorem xor_63' (x : Nat) (h : x < 18446744073709551616) (h2 : 9223372036854775808 ≤ x) : x ^^^ 9223372036854775808 = x - 9223372036854775808 := by
  have e := xor_63 (x - 9223372036854775808) (by omega)
  rw [show 9223372036854775808 + (x - 9223372036854775808) = x by omega] at e
  conv => lhs; rw [← e]
  rw [Nat.xor_assoc, Nat.xor_self, Nat.xor_zero]
theorem xor_top (a : Int) (h0 : 0 ≤ a) (h1 : a < 18446744073709551616) : bits .xor .u64 a 9223372036854775808 = wrap64 a + 9223372036854775808 := by
  have e : (BitVec.ofInt 64 a ^^^ BitVec.ofInt 64 9223372036854775808).toNat = (wrap64 a + 9223372036854775808).toNat := by
    rw [BitVec.toNat_xor, BitVec.toNat_ofInt, BitVec.toNat_ofInt]
    obtain ⟨x, rfl⟩ := Int.eq_ofNat_of_zero_le h0
    rw [show ((x : Int) % ((2 ^ 64 : Nat) : Int)).toNat = x by omega, show ((9223372036854775808 : Int) % ((2 ^ 64 : Nat) : Int)).toNat = 9223372036854775808 from rfl]
    by_cases hx : x < 9223372036854775808
    · rw [xor_63 x hx]; unfold wrap64; omega
    · rw [xor_63' x (by omega) (by omega)]; unfold wrap64; omega
  unfold bits
  show IntKind.u64.wrap ((BitVec.ofInt 64 a ^^^ BitVec.ofInt 64 9223372036854775808).toNat : Int) = _
  rw [e, IntKind.wrap_u64]
  unfold wrap64
  omega
theorem rbelow_any (a b : Int) (w : World) (h0 : 0 ≤ a) (h1 : a < 18446744073709551616) (h2 : 0 ≤ b) (h3 : b < 18446744073709551616) :
    Calls Tryd.prog 26 #[.int .u64 a, .int .u64 b] w fun e w' => e = .returned (.bool (decide (wrap64 a < wrap64 b))) ∧ w = w' := by
  have e1 := xor_top a h0 h1
  have e2 := xor_top b h2 h3
  have H := Lib.hid (And.intro e1 e2)
  clear e1 e2
  go_enter Tryd.func26, Tryd.ntmps26
  go_wp2
  go_ret
  exact ⟨ret_bool (by rw [H.out.1, H.out.2]; exact decide_eq_decide.2 (by omega)), rfl⟩
end Go.Proofs.YtoijhhacgafblabDoor
