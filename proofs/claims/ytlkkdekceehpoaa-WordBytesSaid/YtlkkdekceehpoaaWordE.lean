/- The chapter's examples hold: 'awake' answers true. -/
import Derived.Test.YtlkkdekceehpoaaWordD
namespace Go.Proofs.Ytlkkdekceehpoaa
set_option linter.unusedSimpArgs false
set_option linter.unusedVariables false
open Go.ChangeShapes Go.WideShapes Go.ChangeAt Go.RowKit

theorem ex_a : bitsZ 240 4 3 = 7 := by decide +kernel
theorem ex_b : signZ 255 8 = 18446744073709551615 := by decide +kernel
theorem ex_c : signZ 127 8 = 127 := by decide +kernel
theorem ex_d : fitsB (-128) 8 = true := by decide +kernel
theorem ex_e : fitsB 128 8 = false := by decide +kernel
theorem ex_f : highZ 9223372036854775808 2 false false = 1 := by decide +kernel
theorem ex_g : highZ 18446744073709551615 18446744073709551615 true true = 0 := by decide +kernel
theorem ex_h : quotZ 18446744073709551609 2 true = 18446744073709551613 := by decide +kernel
theorem ex_i : restZ 18446744073709551609 2 true = 18446744073709551615 := by decide +kernel
theorem ex_j : littleZ 258 3 = [2, 1, 0] := by decide +kernel
theorem ex_k : ofB [2, 1] = 258 := by decide +kernel

theorem awake_any (w : World) :
    Calls Try.prog 10 #[] w fun e w' => e = .returned (.bool true) ∧ Below w.heap.size w w' := by
  go_enter Try.func10, Try.ntmps10
  go_wp2_with fail
  refine (bits_any _ _ _ _ (by decide) (by decide)).mono ?_; rintro e w' ⟨rfl, n1, rfl⟩; rw [ex_a]
  go_wp2_with fail
  refine (sign_any _ _ _ (by decide)).mono ?_; rintro e w' ⟨rfl, rfl⟩; rw [ex_b]
  go_wp2_with fail
  refine (sign_any _ _ _ (by decide)).mono ?_; rintro e w' ⟨rfl, rfl⟩; rw [ex_c]
  go_wp2_with fail
  refine (fits_any _ _ _).mono ?_; rintro e w' ⟨rfl, rfl⟩; rw [ex_d]
  go_wp2_with fail
  refine (fits_any _ _ _).mono ?_; rintro e w' ⟨rfl, rfl⟩; rw [ex_e]
  go_wp2_with fail
  refine (high_any _ _ _ _ _ (by decide) (by decide) (by decide) (by decide)).mono ?_; rintro e w' ⟨rfl, rfl⟩; rw [ex_f]
  go_wp2_with fail
  refine (high_any _ _ _ _ _ (by decide) (by decide) (by decide) (by decide)).mono ?_; rintro e w' ⟨rfl, rfl⟩; rw [ex_g]
  go_wp2_with fail
  refine (quot_any _ _ _ _ (by decide) (by decide) (by decide) (by decide)).mono ?_; rintro e w' ⟨rfl, n2, rfl⟩; rw [ex_h]
  go_wp2_with fail
  refine (rest_any _ _ _ _ (by decide) (by decide) (by decide) (by decide)).mono ?_; rintro e w' ⟨rfl, n3, rfl⟩; rw [ex_i]
  go_wp2_with fail
  refine (little_any _ _ _ (by decide) (by decide)).mono ?_; rintro e w1 ⟨v, rfl, ho, hb⟩
  rw [ex_j] at ho
  obtain ⟨a, c, rfl, _⟩ := own_slice ho
  have hr := Rd.of_own ho
  have HO := Lib.hid hr
  have HB := Lib.hid (below_of_drewN hb)
  clear ho hb hr
  go_wp2_with fail
  refine (of_any _ _ _ [2, 1] _ (Rd.lit w1 #[.int .u8 2, .int .u8 1] _ (by decide)) (by decide) (by decide)).mono ?_; rintro e w' ⟨rfl, rfl⟩; rw [ex_k]
  go_wp2_with fail
  refine (same_any _ _ 3 _ 3 _ [2, 1, 0] [2, 1, 0] _ ((HO.out.alloc _).alloc _) (Rd.lit1 w1 _ #[.int .u8 2, .int .u8 1, .int .u8 0] _ (by decide)) (by decide) (by decide)).mono ?_; rintro e w' ⟨rfl, n4, rfl⟩
  rw [show decide ([2, 1, 0] = [2, 1, 0]) = true from rfl]
  go_wp2
  go_ret
  exact ⟨rfl, bDrewN (bAlloc (bAlloc HB.out _) _) _⟩
end Go.Proofs.Ytlkkdekceehpoaa
