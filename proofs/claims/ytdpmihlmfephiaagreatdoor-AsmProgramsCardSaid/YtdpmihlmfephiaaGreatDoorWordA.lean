/- Contracts of package word's functions on numbers, and of the document's own ones: what each answers, at any arguments. -/
import Derived.Test.YtdpmihlmfephiaaGreatDoorRows
import Derived.Test.YtdpmihlmfephiaaGreatDoorWm
import Derived.Test.YtdpmihlmfephiaaGreatDoorMem
import Derived.WalkKit
import Derived.ProofKit
import Derived.OpenShut
import Derived.Outline
import Derived.Deep.QuietTactic
import Derived.BigQuiet
import Derived.LoopTactic
import Derived.Lib.Hide
namespace Go.Proofs.YtdpmihlmfephiaaGreatDoor
open Go.ChangeShapes Go.WideShapes Go.ChangeAt Go.RowKit


theorem lowest_any (m : Int) (w : World) (h0 : 0 ≤ m) (h1 : m ≤ 64) :
    Calls Tryz.prog 147 #[.int .i64 m] w fun e w' => e = .returned (.int .u64 (IntKind.u64.wrap (IntKind.u64.wrap (2 ^ m.toNat) - 1))) ∧ w' = w := by
  go_enter Tryz.func147, Tryz.ntmps147
  go_wp2
  go_ret
  exact ⟨rfl, rfl⟩

theorem bits_any (x f m : Int) (w : World) (hx0 : 0 ≤ x) (hx1 : x < 18446744073709551616) :
    Calls Tryz.prog 124 #[.int .u64 x, .int .i64 f, .int .i64 m] w fun e w' => e = .returned (.int .u64 (bitsZ x f m)) ∧ Quiet w w' := by
  by_cases hg : f < 0 ∨ 63 < f ∨ m < 1 ∨ 64 - f < m
  · have hz : bitsZ x f m = 0 := by unfold bitsZ; rw [if_pos hg]
    rw [hz]
    clear hz hx0 hx1
    rcases hg with h | h | h | h
    all_goals
      go_enter Tryz.func124, Tryz.ntmps124
      go_wp2
      all_goals
        go_ret
        exact ⟨rfl, Quiet.refl _⟩
  · have a1 : decide (f < 0) = false := by simp; omega
    have a2 : decide (63 < f) = false := by simp; omega
    have a3 : decide (m < 1) = false := by simp; omega
    have a4 : decide (64 - f < m) = false := by simp; omega
    have b1 : 0 ≤ f := by omega
    have b2 : f ≤ 63 := by omega
    have b3 : 1 ≤ m := by omega
    have b4 : m ≤ 64 - f := by omega
    clear hg
    go_enter Tryz.func124, Tryz.ntmps124
    go_wp2
    go_quiet ((go_at_call 147; exact Calls.quiet_of_same (lowest_any _ _ (by omega) (by omega))))
    go_wp2
    go_ret
    exact ⟨ret_int (bits_form x f m hx0 hx1 b1 b2 b3 b4), _, rfl⟩

theorem sign_any (x m : Int) (w : World) (hx0 : 0 ≤ x) :
    Calls Tryz.prog 123 #[.int .u64 x, .int .i64 m] w fun e w' => e = .returned (.int .u64 (signZ x m)) ∧ w = w' := by
  by_cases hg : m < 1 ∨ 64 < m
  · have hz : signZ x m = 0 := by unfold signZ; rw [if_pos hg]
    rw [hz]
    clear hz hx0
    rcases hg with h | h
    all_goals
      go_enter Tryz.func123, Tryz.ntmps123
      go_wp2
      all_goals
        go_ret
        exact ⟨rfl, rfl⟩
  · have a3 : decide (m < 1) = false := by simp; omega
    have a4 : decide (64 < m) = false := by simp; omega
    have b1 : 1 ≤ m := by omega
    have b2 : m ≤ 64 := by omega
    clear hg
    go_enter Tryz.func123, Tryz.ntmps123
    go_wp2
    go_ret
    exact ⟨ret_int (sign_form x m hx0 b1 b2), rfl⟩

theorem fits_any (x m : Int) (w : World) :
    Calls Tryz.prog 100 #[.int .i64 x, .int .i64 m] w fun e w' => e = .returned (.bool (fitsB x m)) ∧ w = w' := by
  by_cases hg : m < 1 ∨ 64 < m
  · rw [fitsB_out x m hg]
    rcases hg with h | h
    all_goals
      go_enter Tryz.func100, Tryz.ntmps100
      go_wp2
      all_goals
        go_ret
        exact ⟨rfl, rfl⟩
  · have a3 : decide (1 ≤ m) = true := by simp; omega
    have a4 : decide (m ≤ 64) = true := by simp; omega
    have b1 : 1 ≤ m := by omega
    have b2 : m ≤ 64 := by omega
    clear hg
    go_enter Tryz.func100, Tryz.ntmps100
    go_wp2
    go_ret
    exact ⟨ret_bool (fits_form x m b1 b2), rfl⟩

/-! The document's own. -/
theorem rbits_any (x f m : Int) (w : World) (hx0 : 0 ≤ x) (hx1 : x < 18446744073709551616) :
    Calls Tryz.prog 86 #[.int .u64 x, .int .i64 f, .int .i64 m] w fun e w' => e = .returned (.int .u64 (bitsZ x f m)) ∧ w = w' := by
  by_cases hg : f < 0 ∨ 63 < f ∨ m < 1 ∨ 64 - f < m
  · have hz : bitsZ x f m = 0 := by unfold bitsZ; rw [if_pos hg]
    rw [hz]
    clear hz hx0 hx1
    rcases hg with h | h | h | h
    all_goals
      go_enter Tryz.func86, Tryz.ntmps86
      go_wp2
      all_goals
        go_ret
        exact ⟨rfl, rfl⟩
  · have hz : bitsZ x f m = ((bitsN x.toNat f.toNat m.toNat : Nat) : Int) := by unfold bitsZ; rw [if_neg hg]
    rw [hz]
    clear hz
    obtain ⟨x, rfl⟩ := Int.eq_ofNat_of_zero_le hx0
    obtain ⟨f, rfl⟩ := Int.eq_ofNat_of_zero_le (show 0 ≤ f by omega)
    obtain ⟨m, rfl⟩ := Int.eq_ofNat_of_zero_le (show 0 ≤ m by omega)
    rw [Int.toNat_natCast, Int.toNat_natCast, Int.toNat_natCast]
    have a1 : decide ((f : Int) < 0) = false := by simp
    have a2 : decide (63 < (f : Int)) = false := by simp; omega
    have a3 : decide ((m : Int) < 1) = false := by simp; omega
    have a4 : decide (64 - (f : Int) < (m : Int)) = false := by simp; omega
    have b1 : f + m ≤ 64 := by omega
    have hx : x < 18446744073709551616 := by omega
    clear hg hx0 hx1
    go_enter Tryz.func86, Tryz.ntmps86
    go_wp2
    clear a1 a2 a3 a4
    go_loop [7, 8] (fun o i => ∃ k : Nat, k ≤ m ∧ i = .int .i64 k ∧ o = .int .u64 ((x / 2 ^ f % 2 ^ k : Nat) : Int)) (fun _ i => m - (intOf i).toNat)
    case atStart => exact ⟨0, by omega, rfl, by simp [Nat.mod_one]⟩
    case round =>
      obtain ⟨k, hk, rfl, rfl⟩ := hrel
      by_cases hlt : k < m
      · go_wp2
        go_round
        case rel => exact ⟨k + 1, by omega, by go_num, by refine congrArg (Value.int IntKind.u64) ?_; rw [← rbits_step x f k hx (by omega)]; simp⟩
        case measure => simp [intOf]; omega
      · obtain rfl : k = m := by omega
        go_wp2
        go_ret
        exact ⟨rfl, rfl⟩
end Go.Proofs.YtdpmihlmfephiaaGreatDoor
