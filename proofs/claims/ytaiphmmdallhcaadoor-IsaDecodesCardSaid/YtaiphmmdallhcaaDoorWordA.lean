/- Contracts of package word's functions on numbers, and of the document's own ones: what each answers, at any arguments. -/
import Derived.Test.YtaiphmmdallhcaaDoorRows
import Derived.Test.YtaiphmmdallhcaaDoorWm
import Derived.Test.YtaiphmmdallhcaaDoorMem
import Derived.WalkKit
import Derived.ProofKit
import Derived.OpenShut
import Derived.Outline
import Derived.Deep.QuietTactic
import Derived.BigQuiet
import Derived.LoopTactic
import Derived.Lib.Hide
namespace Go.Proofs.YtaiphmmdallhcaaDoor
open Go.ChangeShapes Go.WideShapes Go.ChangeAt Go.RowKit


theorem lowest_any (m : Int) (w : World) (h0 : 0 ≤ m) (h1 : m ≤ 64) :
    Calls Tryd.prog 51 #[.int .i64 m] w fun e w' => e = .returned (.int .u64 (IntKind.u64.wrap (IntKind.u64.wrap (2 ^ m.toNat) - 1))) ∧ w' = w := by
  go_enter Tryd.func51, Tryd.ntmps51
  go_wp2
  go_ret
  exact ⟨rfl, rfl⟩

theorem bits_any (x f m : Int) (w : World) (hx0 : 0 ≤ x) (hx1 : x < 18446744073709551616) :
    Calls Tryd.prog 49 #[.int .u64 x, .int .i64 f, .int .i64 m] w fun e w' => e = .returned (.int .u64 (bitsZ x f m)) ∧ Quiet w w' := by
  by_cases hg : f < 0 ∨ 63 < f ∨ m < 1 ∨ 64 - f < m
  · have hz : bitsZ x f m = 0 := by unfold bitsZ; rw [if_pos hg]
    rw [hz]
    clear hz hx0 hx1
    rcases hg with h | h | h | h
    all_goals
      go_enter Tryd.func49, Tryd.ntmps49
      go_wp2
      all_goals
        go_ret
        exact ⟨rfl, Quiet.refl _⟩
  · have a1 : decide (f < 0) = false := by simp; omega
    have a2 : decide (63 < f) = false := by simp; omega
    have a3 : decide (m < 1) = false := by simp; omega
    have a4 : decide (64 - f < m) = false := by simp; omega
    have b1 : 0 ≤ f := by omega
    have b2 : f ≤ 63 := by omega
    have b3 : 1 ≤ m := by omega
    have b4 : m ≤ 64 - f := by omega
    clear hg
    go_enter Tryd.func49, Tryd.ntmps49
    go_wp2
    go_quiet ((go_at_call 51; exact Calls.quiet_of_same (lowest_any _ _ (by omega) (by omega))))
    go_wp2
    go_ret
    exact ⟨ret_int (bits_form x f m hx0 hx1 b1 b2 b3 b4), _, rfl⟩

theorem sign_any (x m : Int) (w : World) (hx0 : 0 ≤ x) :
    Calls Tryd.prog 50 #[.int .u64 x, .int .i64 m] w fun e w' => e = .returned (.int .u64 (signZ x m)) ∧ w = w' := by
  by_cases hg : m < 1 ∨ 64 < m
  · have hz : signZ x m = 0 := by unfold signZ; rw [if_pos hg]
    rw [hz]
    clear hz hx0
    rcases hg with h | h
    all_goals
      go_enter Tryd.func50, Tryd.ntmps50
      go_wp2
      all_goals
        go_ret
        exact ⟨rfl, rfl⟩
  · have a3 : decide (m < 1) = false := by simp; omega
    have a4 : decide (64 < m) = false := by simp; omega
    have b1 : 1 ≤ m := by omega
    have b2 : m ≤ 64 := by omega
    clear hg
    go_enter Tryd.func50, Tryd.ntmps50
    go_wp2
    go_ret
    exact ⟨ret_int (sign_form x m hx0 b1 b2), rfl⟩

theorem fits_any (x m : Int) (w : World) :
    Calls Tryd.prog 45 #[.int .i64 x, .int .i64 m] w fun e w' => e = .returned (.bool (fitsB x m)) ∧ w = w' := by
  by_cases hg : m < 1 ∨ 64 < m
  · rw [fitsB_out x m hg]
    rcases hg with h | h
    all_goals
      go_enter Tryd.func45, Tryd.ntmps45
      go_wp2
      all_goals
        go_ret
        exact ⟨rfl, rfl⟩
  · have a3 : decide (1 ≤ m) = true := by simp; omega
    have a4 : decide (m ≤ 64) = true := by simp; omega
    have b1 : 1 ≤ m := by omega
    have b2 : m ≤ 64 := by omega
    clear hg
    go_enter Tryd.func45, Tryd.ntmps45
    go_wp2
    go_ret
    exact ⟨ret_bool (fits_form x m b1 b2), rfl⟩

/-! The document's own. -/
end Go.Proofs.YtaiphmmdallhcaaDoor
