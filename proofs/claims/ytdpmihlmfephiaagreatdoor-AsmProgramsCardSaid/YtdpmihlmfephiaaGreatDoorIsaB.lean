/- Contracts of package isa's functions on instructions' numbers: what may stand there, where it stands, and what it is. -/
import Derived.Test.YtdpmihlmfephiaaGreatDoorIsaA
namespace Go.Proofs.YtdpmihlmfephiaaGreatDoor
set_option linter.unusedVariables false
set_option linter.unusedSimpArgs false
open Go.Joins Go.ChangeShapes Go.WideShapes Go.ChangeAt Go.RowKit

abbrev I64 (n : Int) : Prop := -9223372036854775808 ≤ n ∧ n < 9223372036854775808
theorem fits12 (n : Int) (h : I64 n) : fitsB n 12 = decide (-2048 ≤ n ∧ n < 2048) := by
  unfold fitsB signZ
  rw [if_neg (by decide), show decide ((1 : Int) ≤ 12 ∧ (12 : Int) ≤ 64) = true by decide, Bool.true_and, show (12 : Int).toNat = 12 from rfl]
  unfold sgN
  rw [Bool.eq_iff_iff, beq_iff_eq, decide_eq_true_iff, IntKind.wrap_u64]
  simp only [show (2 : Nat) ^ 12 = 4096 by decide, show (2 : Nat) ^ (12 - 1) = 2048 by decide]
  have := h.1
  have := h.2
  split <;> omega
theorem signed12 (x : Nat) (hx : x < 4096) : wrap64 (signZ (x : Int) 12) = sgI x 12 := by
  unfold signZ sgI
  rw [if_neg (by decide), show (12 : Int).toNat = 12 from rfl, Int.toNat_natCast]
  unfold sgN
  simp only [show (2 : Nat) ^ 12 = 4096 by decide, show (2 : Nat) ^ (12 - 1) = 2048 by decide, show (2 : Int) ^ 12 = 4096 by decide, wrap64]
  split <;> split <;> omega
theorem sign12_any (x : Nat) (w : World) (hx : x < 4096) :
    Calls Tryz.prog 146 #[.int .u32 (x : Int), .int .i64 12] w fun e w' => e = .returned (.int .i64 (sgI x 12)) ∧ w = w' := by
  have HV := Lib.hid (signed12 x hx)
  go_enter Tryz.func146, Tryz.ntmps146
  go_wp2_with fail
  refine (sign_any _ _ _ (by omega)).mono ?_; rintro e w' ⟨rfl, rfl⟩
  go_wp2_with fail
  go_ret
  exact ⟨ret_int HV.out, rfl⟩
theorem fits13 (n : Int) (h : I64 n) : fitsB n 13 = decide (-4096 ≤ n ∧ n < 4096) := by
  unfold fitsB signZ
  rw [if_neg (by decide), show decide ((1 : Int) ≤ 13 ∧ (13 : Int) ≤ 64) = true by decide, Bool.true_and, show (13 : Int).toNat = 13 from rfl]
  unfold sgN
  rw [Bool.eq_iff_iff, beq_iff_eq, decide_eq_true_iff, IntKind.wrap_u64]
  simp only [show (2 : Nat) ^ 13 = 8192 by decide, show (2 : Nat) ^ (13 - 1) = 4096 by decide]
  have := h.1
  have := h.2
  split <;> omega
theorem signed13 (x : Nat) (hx : x < 8192) : wrap64 (signZ (x : Int) 13) = sgI x 13 := by
  unfold signZ sgI
  rw [if_neg (by decide), show (13 : Int).toNat = 13 from rfl, Int.toNat_natCast]
  unfold sgN
  simp only [show (2 : Nat) ^ 13 = 8192 by decide, show (2 : Nat) ^ (13 - 1) = 4096 by decide, show (2 : Int) ^ 13 = 8192 by decide, wrap64]
  split <;> split <;> omega
theorem sign13_any (x : Nat) (w : World) (hx : x < 8192) :
    Calls Tryz.prog 146 #[.int .u32 (x : Int), .int .i64 13] w fun e w' => e = .returned (.int .i64 (sgI x 13)) ∧ w = w' := by
  have HV := Lib.hid (signed13 x hx)
  go_enter Tryz.func146, Tryz.ntmps146
  go_wp2_with fail
  refine (sign_any _ _ _ (by omega)).mono ?_; rintro e w' ⟨rfl, rfl⟩
  go_wp2_with fail
  go_ret
  exact ⟨ret_int HV.out, rfl⟩
theorem fits21 (n : Int) (h : I64 n) : fitsB n 21 = decide (-1048576 ≤ n ∧ n < 1048576) := by
  unfold fitsB signZ
  rw [if_neg (by decide), show decide ((1 : Int) ≤ 21 ∧ (21 : Int) ≤ 64) = true by decide, Bool.true_and, show (21 : Int).toNat = 21 from rfl]
  unfold sgN
  rw [Bool.eq_iff_iff, beq_iff_eq, decide_eq_true_iff, IntKind.wrap_u64]
  simp only [show (2 : Nat) ^ 21 = 2097152 by decide, show (2 : Nat) ^ (21 - 1) = 1048576 by decide]
  have := h.1
  have := h.2
  split <;> omega
theorem signed21 (x : Nat) (hx : x < 2097152) : wrap64 (signZ (x : Int) 21) = sgI x 21 := by
  unfold signZ sgI
  rw [if_neg (by decide), show (21 : Int).toNat = 21 from rfl, Int.toNat_natCast]
  unfold sgN
  simp only [show (2 : Nat) ^ 21 = 2097152 by decide, show (2 : Nat) ^ (21 - 1) = 1048576 by decide, show (2 : Int) ^ 21 = 2097152 by decide, wrap64]
  split <;> split <;> omega
theorem sign21_any (x : Nat) (w : World) (hx : x < 2097152) :
    Calls Tryz.prog 146 #[.int .u32 (x : Int), .int .i64 21] w fun e w' => e = .returned (.int .i64 (sgI x 21)) ∧ w = w' := by
  have HV := Lib.hid (signed21 x hx)
  go_enter Tryz.func146, Tryz.ntmps146
  go_wp2_with fail
  refine (sign_any _ _ _ (by omega)).mono ?_; rintro e w' ⟨rfl, rfl⟩
  go_wp2_with fail
  go_ret
  exact ⟨ret_int HV.out, rfl⟩
theorem fits32 (n : Int) (h : I64 n) : fitsB n 32 = decide (-2147483648 ≤ n ∧ n < 2147483648) := by
  unfold fitsB signZ
  rw [if_neg (by decide), show decide ((1 : Int) ≤ 32 ∧ (32 : Int) ≤ 64) = true by decide, Bool.true_and, show (32 : Int).toNat = 32 from rfl]
  unfold sgN
  rw [Bool.eq_iff_iff, beq_iff_eq, decide_eq_true_iff, IntKind.wrap_u64]
  simp only [show (2 : Nat) ^ 32 = 4294967296 by decide, show (2 : Nat) ^ (32 - 1) = 2147483648 by decide]
  have := h.1
  have := h.2
  split <;> omega
theorem signed32 (x : Nat) (hx : x < 4294967296) : wrap64 (signZ (x : Int) 32) = sgI x 32 := by
  unfold signZ sgI
  rw [if_neg (by decide), show (32 : Int).toNat = 32 from rfl, Int.toNat_natCast]
  unfold sgN
  simp only [show (2 : Nat) ^ 32 = 4294967296 by decide, show (2 : Nat) ^ (32 - 1) = 2147483648 by decide, show (2 : Int) ^ 32 = 4294967296 by decide, wrap64]
  split <;> split <;> omega
theorem sign32_any (x : Nat) (w : World) (hx : x < 4294967296) :
    Calls Tryz.prog 146 #[.int .u32 (x : Int), .int .i64 32] w fun e w' => e = .returned (.int .i64 (sgI x 32)) ∧ w = w' := by
  have HV := Lib.hid (signed32 x hx)
  go_enter Tryz.func146, Tryz.ntmps146
  go_wp2_with fail
  refine (sign_any _ _ _ (by omega)).mono ?_; rintro e w' ⟨rfl, rfl⟩
  go_wp2_with fail
  go_ret
  exact ⟨ret_int HV.out, rfl⟩
theorem tmod_zero (n m : Int) : (n.tmod m == 0) = (n % m == 0) := by
  rw [Bool.eq_iff_iff, beq_iff_eq, beq_iff_eq, ← Int.dvd_iff_tmod_eq_zero, ← Int.dvd_iff_emod_eq_zero]
/-- the kinds that a function asks for, one after the other -/
theorem kinds {P : Int → Prop} (k : Int) (h2 : P 2) (h3 : P 3) (h4 : P 4) (h5 : P 5) (h6 : P 6) (h7 : P 7)
    (ho : ∀ k : Int, (k == 2) = false → (k == 3) = false → (k == 4) = false → (k == 5) = false → (k == 6) = false → (k == 7) = false → P k) : P k := by
  by_cases e2 : k = 2; · subst e2; exact h2
  by_cases e3 : k = 3; · subst e3; exact h3
  by_cases e4 : k = 4; · subst e4; exact h4
  by_cases e5 : k = 5; · subst e5; exact h5
  by_cases e6 : k = 6; · subst e6; exact h6
  by_cases e7 : k = 7; · subst e7; exact h7
  exact ho k (beq_false_of_ne e2) (beq_false_of_ne e3) (beq_false_of_ne e4) (beq_false_of_ne e5) (beq_false_of_ne e6) (beq_false_of_ne e7)
def FitP (n s : Int) (k : Int) : Prop := ∀ w : World, Calls Tryz.prog 66 #[.int .i64 n, .int .i64 k, .int .i64 s] w fun e w' => e = .returned (.bool (immB k s n)) ∧ w = w'
theorem immFits2 (n s : Int) (hn : I64 n) (hs : s = 0 ∨ s = 5 ∨ s = 6) : FitP n s 2 := by
  intro w
  have f12 := fits12 n hn
  have F12 := Lib.hid f12
  clear f12 hn
  rcases hs with rfl | rfl | rfl
  · go_enter Tryz.func66, Tryz.ntmps66
    go_wp2_with fail
    refine (fits_any _ _ _).mono ?_; rintro e w' ⟨rfl, rfl⟩
    go_wp2_with fail
    go_ret
    exact ⟨ret_bool F12.out, rfl⟩
  all_goals
    go_enter Tryz.func66, Tryz.ntmps66
    go_wp2_with fail
    all_goals (refine bodyPost_ret (v := .bool (immB _ _ n)) ?_ rfl ⟨rfl, rfl⟩)
    all_goals first
      | (simp [results, Tryz.results66, go_sem, immB, *]; done)
      | (simp [results, Tryz.results66, go_sem, immB, *]; omega)
theorem immFits3 (n s : Int) (hn : I64 n) (hs : s = 0 ∨ s = 5 ∨ s = 6) : FitP n s 3 := by
  intro w
  have f12 := fits12 n hn
  have F12 := Lib.hid f12
  clear f12 hn
  rcases hs with rfl | rfl | rfl
  · go_enter Tryz.func66, Tryz.ntmps66
    go_wp2_with fail
    refine (fits_any _ _ _).mono ?_; rintro e w' ⟨rfl, rfl⟩
    go_wp2_with fail
    go_ret
    exact ⟨ret_bool F12.out, rfl⟩
  all_goals
    go_enter Tryz.func66, Tryz.ntmps66
    go_wp2_with fail
    all_goals (refine bodyPost_ret (v := .bool (immB _ _ n)) ?_ rfl ⟨rfl, rfl⟩)
    all_goals first
      | (simp [results, Tryz.results66, go_sem, immB, *]; done)
      | (simp [results, Tryz.results66, go_sem, immB, *]; omega)
theorem immFits4 (n s : Int) (hn : I64 n) (hs : s = 0 ∨ s = 5 ∨ s = 6) : FitP n s 4 := by
  intro w
  have f12 := fits12 n hn
  have F12 := Lib.hid f12
  clear f12 hn
  rcases hs with rfl | rfl | rfl
  · go_enter Tryz.func66, Tryz.ntmps66
    go_wp2_with fail
    refine (fits_any _ _ _).mono ?_; rintro e w' ⟨rfl, rfl⟩
    go_wp2_with fail
    go_ret
    exact ⟨ret_bool F12.out, rfl⟩
  all_goals
    go_enter Tryz.func66, Tryz.ntmps66
    go_wp2_with fail
    all_goals (refine bodyPost_ret (v := .bool (immB _ _ n)) ?_ rfl ⟨rfl, rfl⟩)
    all_goals first
      | (simp [results, Tryz.results66, go_sem, immB, *]; done)
      | (simp [results, Tryz.results66, go_sem, immB, *]; omega)
theorem immFits5 (n s : Int) (hn : I64 n) : FitP n s 5 := by
  intro w
  have f12 := fits13 n hn
  have F12 := Lib.hid f12
  clear f12
  by_cases ht : n % 2 = 0
  · have h1 : (n.tmod 2 == 0) = true := by rw [tmod_zero, beq_iff_eq]; exact ht
    have hr : immB 5 s n = decide (-4096 ≤ n ∧ n < 4096) := by simp [immB, ht]
    have HR := Lib.hid hr
    clear ht hr hn
    go_enter Tryz.func66, Tryz.ntmps66
    go_wp2_with fail
    refine (fits_any _ _ _).mono ?_; rintro e w' ⟨rfl, rfl⟩
    go_wp2_with fail
    go_ret
    exact ⟨ret_bool (F12.out.trans HR.out.symm), rfl⟩
  · have h1 : (n.tmod 2 == 0) = false := by rw [tmod_zero]; exact beq_false_of_ne ht
    have hr : immB 5 s n = false := by simp [immB, ht]
    have HR := Lib.hid hr
    clear ht hr hn
    go_enter Tryz.func66, Tryz.ntmps66
    go_wp2_with fail
    go_ret
    exact ⟨ret_bool HR.out.symm, rfl⟩
theorem immFits6 (n s : Int) (hn : I64 n) : FitP n s 6 := by
  intro w
  have f12 := fits32 n hn
  have F12 := Lib.hid f12
  clear f12
  by_cases ht : n % 4096 = 0
  · have h1 : (n.tmod 4096 == 0) = true := by rw [tmod_zero, beq_iff_eq]; exact ht
    have hr : immB 6 s n = decide (-2147483648 ≤ n ∧ n < 2147483648) := by simp [immB, ht]
    have HR := Lib.hid hr
    clear ht hr hn
    go_enter Tryz.func66, Tryz.ntmps66
    go_wp2_with fail
    refine (fits_any _ _ _).mono ?_; rintro e w' ⟨rfl, rfl⟩
    go_wp2_with fail
    go_ret
    exact ⟨ret_bool (F12.out.trans HR.out.symm), rfl⟩
  · have h1 : (n.tmod 4096 == 0) = false := by rw [tmod_zero]; exact beq_false_of_ne ht
    have hr : immB 6 s n = false := by simp [immB, ht]
    have HR := Lib.hid hr
    clear ht hr hn
    go_enter Tryz.func66, Tryz.ntmps66
    go_wp2_with fail
    go_ret
    exact ⟨ret_bool HR.out.symm, rfl⟩
theorem immFits7 (n s : Int) (hn : I64 n) : FitP n s 7 := by
  intro w
  have f12 := fits21 n hn
  have F12 := Lib.hid f12
  clear f12
  by_cases ht : n % 2 = 0
  · have h1 : (n.tmod 2 == 0) = true := by rw [tmod_zero, beq_iff_eq]; exact ht
    have hr : immB 7 s n = decide (-1048576 ≤ n ∧ n < 1048576) := by simp [immB, ht]
    have HR := Lib.hid hr
    clear ht hr hn
    go_enter Tryz.func66, Tryz.ntmps66
    go_wp2_with fail
    refine (fits_any _ _ _).mono ?_; rintro e w' ⟨rfl, rfl⟩
    go_wp2_with fail
    go_ret
    exact ⟨ret_bool (F12.out.trans HR.out.symm), rfl⟩
  · have h1 : (n.tmod 2 == 0) = false := by rw [tmod_zero]; exact beq_false_of_ne ht
    have hr : immB 7 s n = false := by simp [immB, ht]
    have HR := Lib.hid hr
    clear ht hr hn
    go_enter Tryz.func66, Tryz.ntmps66
    go_wp2_with fail
    go_ret
    exact ⟨ret_bool HR.out.symm, rfl⟩
theorem immFits_any (n k s : Int) (w : World) (hn : I64 n) (hs : s = 0 ∨ s = 5 ∨ s = 6) :
    Calls Tryz.prog 66 #[.int .i64 n, .int .i64 k, .int .i64 s] w fun e w' => e = .returned (.bool (immB k s n)) ∧ w = w' := by
  refine kinds (P := FitP n s) k (immFits2 n s hn hs) (immFits3 n s hn hs) (immFits4 n s hn hs) (immFits5 n s hn) (immFits6 n s hn) (immFits7 n s hn) ?_ w
  intro k f2 f3 f4 f5 f6 f7 w
  have hr : immB k s n = (n == 0) := by simp [immB, f2, f3, f4, f5, f6, f7]; rw [Bool.eq_iff_iff]; simp
  have HR := Lib.hid hr
  clear hr hn hs
  go_enter Tryz.func66, Tryz.ntmps66
  go_wp2_with fail
  go_ret
  exact ⟨ret_bool HR.out.symm, rfl⟩
end Go.Proofs.YtdpmihlmfephiaaGreatDoor
