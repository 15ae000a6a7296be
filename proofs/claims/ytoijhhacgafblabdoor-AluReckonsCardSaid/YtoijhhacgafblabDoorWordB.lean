/- Contracts of package word's functions on numbers, and of the document's own ones: signs, whether a number fits, products, quotients. -/
import Derived.Test.YtoijhhacgafblabDoorWordA
namespace Go.Proofs.YtoijhhacgafblabDoor
set_option linter.unusedSimpArgs false
set_option linter.unusedVariables false
open Go.ChangeShapes Go.WideShapes Go.ChangeAt Go.RowKit

theorem rsign_any (x m : Int) (w : World) (hx0 : 0 ≤ x) (hx1 : x < 18446744073709551616) :
    Calls Tryd.prog 19 #[.int .u64 x, .int .i64 m] w fun e w' => e = .returned (.int .u64 (signZ x m)) ∧ w = w' := by
  by_cases hg : m < 1 ∨ 64 < m
  · have hz : signZ x m = 0 := by unfold signZ; rw [if_pos hg]
    rw [hz]
    clear hz hx0 hx1
    rcases hg with h | h
    all_goals
      go_enter Tryd.func19, Tryd.ntmps19
      go_wp2
      all_goals
        go_ret
        exact ⟨rfl, rfl⟩
  · have hz : signZ x m = ((sgN x.toNat m.toNat : Nat) : Int) := by unfold signZ; rw [if_neg hg]
    rw [hz]
    clear hz
    obtain ⟨x, rfl⟩ := Int.eq_ofNat_of_zero_le hx0
    obtain ⟨m, rfl⟩ := Int.eq_ofNat_of_zero_le (show 0 ≤ m by omega)
    rw [Int.toNat_natCast, Int.toNat_natCast]
    have a3 : decide ((m : Int) < 1) = false := by simp; omega
    have a4 : decide (64 < (m : Int)) = false := by simp; omega
    have b1 : 1 ≤ m := by omega
    have b2 : m ≤ 64 := by omega
    have hx : x < 18446744073709551616 := by omega
    clear hg hx0 hx1
    go_enter Tryd.func19, Tryd.ntmps19
    go_wp2
    clear a3 a4
    go_loop [5, 6] (fun o i => ∃ k : Nat, k ≤ 64 ∧ i = .int .i64 k ∧ o = .int .u64 ((sgN x m % 2 ^ k : Nat) : Int)) (fun _ i => 64 - (intOf i).toNat)
    case atStart => exact ⟨0, by omega, rfl, by simp [Nat.mod_one]⟩
    case round =>
      obtain ⟨k, hk, rfl, rfl⟩ := hrel
      by_cases hlt : k < 64
      · go_wp2
        go_round
        case rel => exact ⟨k + 1, by omega, by go_num, by rw [← rsign_step x m k b1 b2 hx (by omega)]⟩
        case measure => simp [intOf]; omega
      · have e : ((sgN x m % 2 ^ k : Nat) : Int) = sgN x m := by
          rw [show k = 64 by omega]; exact congrArg _ (Nat.mod_eq_of_lt (sgN_lt x m b2))
        have E := Lib.hid e
        clear e
        have hge : ¬ ((k : Int) < 64) := by omega
        go_wp2
        go_ret
        exact ⟨ret_int E.out, rfl⟩

theorem mul_any (x y : Int) (w : World) (hx0 : 0 ≤ x) (hx1 : x < 18446744073709551616) (hy0 : 0 ≤ y) (hy1 : y < 18446744073709551616) :
    Calls Tryd.prog 70 #[.int .u64 x, .int .u64 y] w fun e w' => e = .returned (.tuple #[.int .u64 (x * y / 18446744073709551616), .int .u64 (x * y % 18446744073709551616)]) ∧ w = w' := by
  have H := mul_hi x y hx0 hx1 hy0 hy1
  have L : IntKind.u64.wrap (x * y) = x * y % 18446744073709551616 := IntKind.wrap_u64 _
  rw [← L, ← H]
  clear H L
  go_enter Tryd.func70, Tryd.ntmps70
  go_wp2
  go_ret2
  exact ⟨rfl, rfl⟩
theorem negative_any (x : Int) (w : World) (hx0 : 0 ≤ x) (hx1 : x < 18446744073709551616) :
    Calls Tryd.prog 71 #[.int .u64 x] w fun e w' => e = .returned (.bool (negB x)) ∧ w = w' := by
  go_enter Tryd.func71, Tryd.ntmps71
  go_wp2
  go_ret
  exact ⟨ret_bool (neg_form x hx0 hx1), rfl⟩
theorem size_any (x : Int) (w : World) (hx0 : 0 ≤ x) (hx1 : x < 18446744073709551616) :
    Calls Tryd.prog 73 #[.int .u64 x] w fun e w' => e = .returned (.int .u64 (mag x true)) ∧ w = w' := by
  have H := mag_t x hx0 hx1
  cases hn : negB x
  all_goals
    rw [hn] at H
    simp only [if_true, if_false, Bool.false_eq_true] at H
    rw [← H]
    have N := neg_form x hx0 hx1
    rw [hn] at N
    clear H
    go_enter Tryd.func73, Tryd.ntmps73
    go_wp2
    go_ret
    exact ⟨rfl, rfl⟩
theorem high_any (x y : Int) (s t : Bool) (w : World) (hx0 : 0 ≤ x) (hx1 : x < 18446744073709551616) (hy0 : 0 ≤ y) (hy1 : y < 18446744073709551616) :
    Calls Tryd.prog 63 #[.int .u64 x, .int .u64 y, .bool s, .bool t] w fun e w' => e = .returned (.int .u64 (highZ x y s t)) ∧ w = w' := by
  rw [high_form x y s t hx0 hx1 hy0 hy1]
  cases s <;> cases t <;> cases ha : negB x <;> cases hb : negB y <;> simp only [Bool.true_and, Bool.false_and, if_true, if_false, Bool.false_eq_true]
  all_goals
    go_enter Tryd.func63, Tryd.ntmps63
    go_wp2_with (first | (go_at_call 70; refine (mul_any _ _ _ hx0 hx1 hy0 hy1).mono ?_; rintro e w' ⟨rfl, rfl⟩) | (go_at_call 71; refine (negative_any _ _ (by assumption) (by assumption)).mono ?_; rintro e w' ⟨rfl, rfl⟩))
    go_ret
    exact ⟨rfl, rfl⟩
theorem quot_any (x y : Int) (s : Bool) (w : World) (hx0 : 0 ≤ x) (hx1 : x < 18446744073709551616) (hy0 : 0 ≤ y) (hy1 : y < 18446744073709551616) :
    Calls Tryd.prog 64 #[.int .u64 x, .int .u64 y, .bool s] w fun e w' => e = .returned (.int .u64 (quotZ x y s)) ∧ Quiet w w' := by
  by_cases h : y = 0
  · subst h
    clear hx0 hx1 hy0 hy1
    have hz : quotZ x 0 s = 18446744073709551615 := by unfold quotZ; rw [if_pos rfl]
    have hl : IntKind.u64.wrap (IntKind.u64.wrap 18446744073709551616 - 1) = 18446744073709551615 := by decide
    rw [hz, ← hl]
    clear hz hl
    go_enter Tryd.func64, Tryd.ntmps64
    go_wp2
    go_ret
    exact ⟨rfl, Quiet.refl _⟩
  · have h' : (y == 0) = false := by rw [beq_eq_false_iff_ne]; exact h
    have hp := mag_pos y true (by omega) hy1
    have hm := mag_in x true hx0 hx1
    have hq : 0 ≤ mag x true / mag y true ∧ mag x true / mag y true < 18446744073709551616 := by
      have := IntWalk.tdiv_le (mag x true) (mag y true) hm.1 hp
      omega
    cases s
    · rw [quot_f x y h]
      go_enter Tryd.func64, Tryd.ntmps64
      go_wp2
      go_ret
      exact ⟨rfl, Quiet.refl _⟩
    · rw [quot_t x y h]
      cases ha : negB x <;> cases hb : negB y <;> simp only [bne_self_eq_false, if_true, if_false, Bool.false_eq_true, Bool.true_bne, Bool.false_bne, Bool.not_false, Bool.not_true]
      all_goals
        go_enter Tryd.func64, Tryd.ntmps64
        go_wp2_with (first | (go_at_call 73; refine (size_any _ _ (by assumption) (by assumption)).mono ?_; rintro e w' ⟨rfl, rfl⟩) | (go_at_call 71; refine (negative_any _ _ (by assumption) (by assumption)).mono ?_; rintro e w' ⟨rfl, rfl⟩))
        go_ret
        exact ⟨rfl, Quiet.refl _⟩
theorem rest_any (x y : Int) (s : Bool) (w : World) (hx0 : 0 ≤ x) (hx1 : x < 18446744073709551616) (hy0 : 0 ≤ y) (hy1 : y < 18446744073709551616) :
    Calls Tryd.prog 65 #[.int .u64 x, .int .u64 y, .bool s] w fun e w' => e = .returned (.int .u64 (restZ x y s)) ∧ Quiet w w' := by
  by_cases h : y = 0
  · subst h
    clear hx0 hx1 hy0 hy1
    have hz : restZ x 0 s = x := by unfold restZ; rw [if_pos rfl]
    rw [hz]
    clear hz
    go_enter Tryd.func65, Tryd.ntmps65
    go_wp2
    go_ret
    exact ⟨rfl, Quiet.refl _⟩
  · have h' : (y == 0) = false := by rw [beq_eq_false_iff_ne]; exact h
    have hp := mag_pos y true (by omega) hy1
    have hm := mag_in x true hx0 hx1
    have hq : 0 ≤ mag x true % mag y true ∧ mag x true % mag y true < 18446744073709551616 := by
      have a := Int.emod_nonneg (mag x true) (Int.ne_of_gt hp)
      have b := Int.emod_lt_of_pos (mag x true) hp
      have c := mag_in y true hy0 hy1
      omega
    cases s
    · rw [rest_f x y h]
      go_enter Tryd.func65, Tryd.ntmps65
      go_wp2
      go_ret
      exact ⟨rfl, Quiet.refl _⟩
    · rw [rest_t x y h]
      cases ha : negB x <;> simp only [if_true, if_false, Bool.false_eq_true]
      all_goals
        go_enter Tryd.func65, Tryd.ntmps65
        go_wp2_with (first | (go_at_call 73; refine (size_any _ _ (by assumption) (by assumption)).mono ?_; rintro e w' ⟨rfl, rfl⟩) | (go_at_call 71; refine (negative_any _ _ (by assumption) (by assumption)).mono ?_; rintro e w' ⟨rfl, rfl⟩))
        go_ret
        exact ⟨rfl, Quiet.refl _⟩
end Go.Proofs.YtoijhhacgafblabDoor
