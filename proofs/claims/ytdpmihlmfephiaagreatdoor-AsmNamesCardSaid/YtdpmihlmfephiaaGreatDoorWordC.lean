/- Contracts of the document's own long division, and product. -/
import Derived.Test.YtdpmihlmfephiaaGreatDoorWordB
namespace Go.Proofs.YtdpmihlmfephiaaGreatDoor
set_option linter.unusedSimpArgs false
set_option linter.unusedVariables false
open Go.ChangeShapes Go.WideShapes Go.ChangeAt Go.RowKit

def low_is (x : Int) : Bool := decide (9223372036854775808 ≤ x)
theorem wbit_any (x i : Int) (w : World) (h0 : 0 ≤ i) (h1 : i ≤ 63) :
    Calls Tryz.prog 119 #[.int .u64 x, .int .i64 i] w fun e w' => e = .returned (.int .u64 (bits .and .u64 (x / 2 ^ i.toNat) 1)) ∧ w = w' := by
  go_enter Tryz.func119, Tryz.ntmps119
  go_wp2
  go_ret
  exact ⟨rfl, rfl⟩
end Go.Proofs.YtdpmihlmfephiaaGreatDoor
