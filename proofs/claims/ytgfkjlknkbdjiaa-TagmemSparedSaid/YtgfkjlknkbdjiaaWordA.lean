/- Contracts of package word's functions on numbers, and of the document's own ones: what each answers, at any arguments. -/
import Derived.Test.YtgfkjlknkbdjiaaRows
import Derived.Test.YtgfkjlknkbdjiaaWm
import Derived.Test.YtgfkjlknkbdjiaaMem
import Derived.WalkKit
import Derived.ProofKit
import Derived.OpenShut
import Derived.Outline
import Derived.Deep.QuietTactic
import Derived.BigQuiet
import Derived.LoopTactic
import Derived.Lib.Hide
namespace Go.Proofs.Ytgfkjlknkbdjiaa
open Go.ChangeShapes Go.WideShapes Go.ChangeAt Go.RowKit


theorem rbits_any (x f m : Int) (w : World) (hx0 : 0 ≤ x) (hx1 : x < 18446744073709551616) :
    Calls Try.prog 68 #[.int .u64 x, .int .i64 f, .int .i64 m] w fun e w' => e = .returned (.int .u64 (bitsZ x f m)) ∧ w = w' := by
  by_cases hg : f < 0 ∨ 63 < f ∨ m < 1 ∨ 64 - f < m
  · have hz : bitsZ x f m = 0 := by unfold bitsZ; rw [if_pos hg]
    rw [hz]
    clear hz hx0 hx1
    rcases hg with h | h | h | h
    all_goals
      go_enter Try.func68, Try.ntmps68
      go_wp2
      all_goals
        go_ret
        exact ⟨rfl, rfl⟩
  · have hz : bitsZ x f m = ((bitsN x.toNat f.toNat m.toNat : Nat) : Int) := by unfold bitsZ; rw [if_neg hg]
    rw [hz]
    clear hz
    obtain ⟨x, rfl⟩ := Int.eq_ofNat_of_zero_le hx0
    obtain ⟨f, rfl⟩ := Int.eq_ofNat_of_zero_le (show 0 ≤ f by omega)
    obtain ⟨m, rfl⟩ := Int.eq_ofNat_of_zero_le (show 0 ≤ m by omega)
    rw [Int.toNat_natCast, Int.toNat_natCast, Int.toNat_natCast]
    have a1 : decide ((f : Int) < 0) = false := by simp
    have a2 : decide (63 < (f : Int)) = false := by simp; omega
    have a3 : decide ((m : Int) < 1) = false := by simp; omega
    have a4 : decide (64 - (f : Int) < (m : Int)) = false := by simp; omega
    have b1 : f + m ≤ 64 := by omega
    have hx : x < 18446744073709551616 := by omega
    clear hg hx0 hx1
    go_enter Try.func68, Try.ntmps68
    go_wp2
    clear a1 a2 a3 a4
    go_loop [7, 8] (fun o i => ∃ k : Nat, k ≤ m ∧ i = .int .i64 k ∧ o = .int .u64 ((x / 2 ^ f % 2 ^ k : Nat) : Int)) (fun _ i => m - (intOf i).toNat)
    case atStart => exact ⟨0, by omega, rfl, by simp [Nat.mod_one]⟩
    case round =>
      obtain ⟨k, hk, rfl, rfl⟩ := hrel
      by_cases hlt : k < m
      · go_wp2
        go_round
        case rel => exact ⟨k + 1, by omega, by go_num, by refine congrArg (Value.int IntKind.u64) ?_; rw [← rbits_step x f k hx (by omega)]; simp⟩
        case measure => simp [intOf]; omega
      · obtain rfl : k = m := by omega
        go_wp2
        go_ret
        exact ⟨rfl, rfl⟩
end Go.Proofs.Ytgfkjlknkbdjiaa
