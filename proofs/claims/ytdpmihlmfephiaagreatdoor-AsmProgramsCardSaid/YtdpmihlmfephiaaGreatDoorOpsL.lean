/- The document's operations, low. -/
import Derived.Test.YtdpmihlmfephiaaGreatDoorOpsT
import Derived.Test.YtdpmihlmfephiaaGreatDoorRows
import Derived.WalkKit
import Derived.ProofKit
import Derived.OpenShut
import Derived.Lib.Hide
namespace Go.Proofs.YtdpmihlmfephiaaGreatDoor
set_option linter.unusedVariables false
set_option linter.unusedSimpArgs false
open Go.ChangeShapes Go.WideShapes Go.ChangeAt Go.RowKit

set_option maxHeartbeats 4000000 in
theorem low_in (op : Int) (w : World) (h1 : 1 ≤ op) (h2 : op ≤ 36) : Calls Tryz.prog 93 #[.int .i64 op] w fun e w' => e = .returned (opV op) ∧ Below w.heap.size w w' := by
  have H1 := Lib.hid h1
  have H2 := Lib.hid h2
  clear h1 h2
  go_enter Tryz.func93, Tryz.ntmps93
  go_wp2_with fail
  all_goals first
    | (rename_i h; obtain rfl := eq_of_beq h; exact bodyPost_ret (by simp [results, Tryz.results93, go_sem]; rfl) rfl ⟨by simp only [opV_1, opV_2, opV_3, opV_4, opV_5, opV_6, opV_7, opV_8, opV_9, opV_10, opV_11, opV_12, opV_13, opV_14, opV_15, opV_16, opV_17, opV_18, opV_19, opV_20, opV_21, opV_22, opV_23, opV_24, opV_25, opV_26, opV_27, opV_28, opV_29, opV_30, opV_31, opV_32, opV_33, opV_34, opV_35, opV_36], bAlloc (Below.refl _ _) _⟩)
    | (exfalso; have := H1.out; have := H2.out; simp only [beq_eq_false_iff_ne, ne_eq] at *; omega)

end Go.Proofs.YtdpmihlmfephiaaGreatDoor
