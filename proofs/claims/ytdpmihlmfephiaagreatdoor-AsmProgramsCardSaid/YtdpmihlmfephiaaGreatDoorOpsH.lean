/- The document's operations, high. -/
import Derived.Test.YtdpmihlmfephiaaGreatDoorOpsT
import Derived.Test.YtdpmihlmfephiaaGreatDoorRows
import Derived.WalkKit
import Derived.ProofKit
import Derived.OpenShut
import Derived.Lib.Hide
namespace Go.Proofs.YtdpmihlmfephiaaGreatDoor
set_option linter.unusedVariables false
set_option linter.unusedSimpArgs false
open Go.ChangeShapes Go.WideShapes Go.ChangeAt Go.RowKit

set_option maxHeartbeats 4000000 in
theorem high_in (op : Int) (w : World) (h1 : 37 ≤ op) (h2 : op ≤ 82) : Calls Tryz.prog 94 #[.int .i64 op] w fun e w' => e = .returned (opV op) ∧ Below w.heap.size w w' := by
  have H1 := Lib.hid h1
  have H2 := Lib.hid h2
  clear h1 h2
  go_enter Tryz.func94, Tryz.ntmps94
  go_wp2_with fail
  all_goals first
    | (rename_i h; obtain rfl := eq_of_beq h; exact bodyPost_ret (by simp [results, Tryz.results94, go_sem]; rfl) rfl ⟨by simp only [opV_37, opV_38, opV_39, opV_40, opV_41, opV_42, opV_43, opV_44, opV_45, opV_46, opV_47, opV_48, opV_49, opV_50, opV_51, opV_52, opV_53, opV_54, opV_55, opV_56, opV_57, opV_58, opV_59, opV_60, opV_61, opV_62, opV_63, opV_64, opV_65, opV_66, opV_67, opV_68, opV_69, opV_70, opV_71, opV_72, opV_73, opV_74, opV_75, opV_76, opV_77, opV_78, opV_79, opV_80, opV_81, opV_82], bAlloc (Below.refl _ _) _⟩)
    | (exfalso; have := H1.out; have := H2.out; simp only [beq_eq_false_iff_ne, ne_eq] at *; omega)

end Go.Proofs.YtdpmihlmfephiaaGreatDoor
