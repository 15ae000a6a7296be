/- The table of rules. -/
import Derived.Test.YtoijhhacgafblabDoorWordC
import Derived.Test.YtoijhhacgafblabDoorMem
import Derived.Great.BuildSlice
import Derived.Great.Walk
import Derived.Deep.WholeRow
import Derived.Test.YtoijhhacgafblabDoorWb
namespace Go.Proofs.YtoijhhacgafblabDoor
set_option linter.unusedVariables false
set_option linter.unusedSimpArgs false
open Go.ChangeShapes Go.WideShapes Go.ChangeAt Go.RowKit Go.Great

abbrev fv (n : Nat) : Value := .func (.func n) #[] #[]
def rulesC : Array Value := #[fv 33, fv 34, fv 33, fv 33, fv 35, fv 33, fv 33, fv 36, fv 33, fv 33, fv 37, fv 33, fv 33, fv 38, fv 33, fv 33, fv 39, fv 33, fv 33, fv 40, fv 33, fv 33, fv 41, fv 33, fv 33, fv 42, fv 33, fv 33, fv 43, fv 33, fv 33, fv 44, fv 33, fv 33, fv 45, fv 33, fv 33, fv 46, fv 33, fv 33, fv 47, fv 33, fv 33, fv 48, fv 33, fv 33, fv 49, fv 33, fv 33, fv 50, fv 33, fv 33, fv 51, fv 33, fv 52, fv 34, fv 52, fv 52, fv 35, fv 52, fv 52, fv 53, fv 52, fv 54, fv 55, fv 52, fv 52, fv 56, fv 52, fv 52, fv 44, fv 52, fv 52, fv 48, fv 52, fv 54, fv 49, fv 52, fv 52, fv 50, fv 52, fv 54, fv 51, fv 52, fv 33, fv 34, fv 33, fv 33, fv 37, fv 33, fv 33, fv 38, fv 33, fv 33, fv 39, fv 33, fv 33, fv 42, fv 33, fv 33, fv 43, fv 33, fv 33, fv 36, fv 33, fv 33, fv 40, fv 33, fv 33, fv 41, fv 33, fv 52, fv 34, fv 52, fv 52, fv 53, fv 52, fv 54, fv 55, fv 52, fv 52, fv 56, fv 52]
theorem rules_ret (R : Array Value) (hR : (Tryd.prog.info? 46).map (·.size) = some R.size) (A : Act) (w : World) (h0 : A.tmps.getD 0 undef = .pointer (some ⟨w.heap.size, 0, none⟩)) (hd : A.defers = []) :
    Code.wp Tryd.prog Code.ret (bodyPost Tryd.prog Tryd.f23 fun e w' => e = .returned (.agg R) ∧ Below w.heap.size w w') A (w.alloc (.cells R 46)) := by
  have hl := run_loadVar_new (P := Tryd.prog) w 46 R 41 45 Tryd.underlying46 hR
  refine wp_ret (bodyPost_ret (v := .agg R) ?_ hd ⟨rfl, bAlloc (Below.refl _ _) _⟩)
  obtain ⟨T, D⟩ := A
  simp only at h0
  have h0' : T[0]?.getD undef = .pointer (some ⟨w.heap.size, 0, none⟩) := by simpa using h0
  simp [results, Tryd.results23, h0', h0, asAddr, hl]

attribute [local irreducible] wpList Code.wp

set_option maxHeartbeats 0 in
set_option maxRecDepth 100000 in
theorem rules_any (w : World) :
    Calls Tryd.prog 23 #[] w fun e w' => e = .returned (.agg rulesC) ∧ Below w.heap.size w w' := by
  go_enter Tryd.func23, Tryd.ntmps23
  apply wp_seq_k; intro K0 hK0
  apply wp_region_lit
  refine wpList_allocTo rfl (some 0) rfl (.pointer (some ⟨w.heap.size, 0, none⟩)) (.cells (Array.replicate 123 .nilFunc) 46) (by kernel_rfl) ?_
  apply wpList_nil
  refine hK0 _ _ ?_
  clear hK0 K0
  apply wp_seq_k; intro K1 hK1
  apply wp_region_lit
  refine wpList_buildTo rfl 45 _ rfl (some 1) rfl #[fv 33, fv 34, fv 33] (by kernel_rfl) ?_
  refine wpList_buildTo rfl 45 _ rfl (some 2) rfl #[fv 33, fv 35, fv 33] (by kernel_rfl) ?_
  refine wpList_buildTo rfl 45 _ rfl (some 3) rfl #[fv 33, fv 36, fv 33] (by kernel_rfl) ?_
  refine wpList_buildTo rfl 45 _ rfl (some 4) rfl #[fv 33, fv 37, fv 33] (by kernel_rfl) ?_
  refine wpList_buildTo rfl 45 _ rfl (some 5) rfl #[fv 33, fv 38, fv 33] (by kernel_rfl) ?_
  refine wpList_buildTo rfl 45 _ rfl (some 6) rfl #[fv 33, fv 39, fv 33] (by kernel_rfl) ?_
  refine wpList_buildTo rfl 45 _ rfl (some 7) rfl #[fv 33, fv 40, fv 33] (by kernel_rfl) ?_
  refine wpList_buildTo rfl 45 _ rfl (some 8) rfl #[fv 33, fv 41, fv 33] (by kernel_rfl) ?_
  refine wpList_buildTo rfl 45 _ rfl (some 9) rfl #[fv 33, fv 42, fv 33] (by kernel_rfl) ?_
  refine wpList_buildTo rfl 45 _ rfl (some 10) rfl #[fv 33, fv 43, fv 33] (by kernel_rfl) ?_
  refine wpList_buildTo rfl 45 _ rfl (some 11) rfl #[fv 33, fv 44, fv 33] (by kernel_rfl) ?_
  refine wpList_buildTo rfl 45 _ rfl (some 12) rfl #[fv 33, fv 45, fv 33] (by kernel_rfl) ?_
  refine wpList_buildTo rfl 45 _ rfl (some 13) rfl #[fv 33, fv 46, fv 33] (by kernel_rfl) ?_
  refine wpList_buildTo rfl 45 _ rfl (some 14) rfl #[fv 33, fv 47, fv 33] (by kernel_rfl) ?_
  refine wpList_buildTo rfl 45 _ rfl (some 15) rfl #[fv 33, fv 48, fv 33] (by kernel_rfl) ?_
  refine wpList_buildTo rfl 45 _ rfl (some 16) rfl #[fv 33, fv 49, fv 33] (by kernel_rfl) ?_
  refine wpList_buildTo rfl 45 _ rfl (some 17) rfl #[fv 33, fv 50, fv 33] (by kernel_rfl) ?_
  refine wpList_buildTo rfl 45 _ rfl (some 18) rfl #[fv 33, fv 51, fv 33] (by kernel_rfl) ?_
  refine wpList_buildTo rfl 45 _ rfl (some 19) rfl #[fv 52, fv 34, fv 52] (by kernel_rfl) ?_
  refine wpList_buildTo rfl 45 _ rfl (some 20) rfl #[fv 52, fv 35, fv 52] (by kernel_rfl) ?_
  refine wpList_buildTo rfl 45 _ rfl (some 21) rfl #[fv 52, fv 53, fv 52] (by kernel_rfl) ?_
  refine wpList_buildTo rfl 45 _ rfl (some 22) rfl #[fv 54, fv 55, fv 52] (by kernel_rfl) ?_
  refine wpList_buildTo rfl 45 _ rfl (some 23) rfl #[fv 52, fv 56, fv 52] (by kernel_rfl) ?_
  refine wpList_buildTo rfl 45 _ rfl (some 24) rfl #[fv 52, fv 44, fv 52] (by kernel_rfl) ?_
  refine wpList_buildTo rfl 45 _ rfl (some 25) rfl #[fv 52, fv 48, fv 52] (by kernel_rfl) ?_
  refine wpList_buildTo rfl 45 _ rfl (some 26) rfl #[fv 54, fv 49, fv 52] (by kernel_rfl) ?_
  refine wpList_buildTo rfl 45 _ rfl (some 27) rfl #[fv 52, fv 50, fv 52] (by kernel_rfl) ?_
  refine wpList_buildTo rfl 45 _ rfl (some 28) rfl #[fv 54, fv 51, fv 52] (by kernel_rfl) ?_
  refine wpList_buildTo rfl 45 _ rfl (some 29) rfl #[fv 33, fv 34, fv 33] (by kernel_rfl) ?_
  refine wpList_buildTo rfl 45 _ rfl (some 30) rfl #[fv 33, fv 37, fv 33] (by kernel_rfl) ?_
  refine wpList_buildTo rfl 45 _ rfl (some 31) rfl #[fv 33, fv 38, fv 33] (by kernel_rfl) ?_
  refine wpList_buildTo rfl 45 _ rfl (some 32) rfl #[fv 33, fv 39, fv 33] (by kernel_rfl) ?_
  refine wpList_buildTo rfl 45 _ rfl (some 33) rfl #[fv 33, fv 42, fv 33] (by kernel_rfl) ?_
  refine wpList_buildTo rfl 45 _ rfl (some 34) rfl #[fv 33, fv 43, fv 33] (by kernel_rfl) ?_
  refine wpList_buildTo rfl 45 _ rfl (some 35) rfl #[fv 33, fv 36, fv 33] (by kernel_rfl) ?_
  refine wpList_buildTo rfl 45 _ rfl (some 36) rfl #[fv 33, fv 40, fv 33] (by kernel_rfl) ?_
  refine wpList_buildTo rfl 45 _ rfl (some 37) rfl #[fv 33, fv 41, fv 33] (by kernel_rfl) ?_
  refine wpList_buildTo rfl 45 _ rfl (some 38) rfl #[fv 52, fv 34, fv 52] (by kernel_rfl) ?_
  refine wpList_buildTo rfl 45 _ rfl (some 39) rfl #[fv 52, fv 53, fv 52] (by kernel_rfl) ?_
  refine wpList_buildTo rfl 45 _ rfl (some 40) rfl #[fv 54, fv 55, fv 52] (by kernel_rfl) ?_
  refine wpList_buildTo rfl 45 _ rfl (some 41) rfl #[fv 52, fv 56, fv 52] (by kernel_rfl) ?_
  refine wpList_buildTo rfl 46 _ rfl (some 42) rfl rulesC (by kernel_rfl) ?_
  refine wpList_store_rowTo rfl 46 _ _ rfl rfl w.heap.size rulesC (by kernel_rfl) (by kernel_rfl) 46 (Array.replicate 123 .nilFunc) (heap_alloc_new w _) (by kernel_rfl) (by kernel_rfl) (by kernel_rfl) ?_
  apply wpList_nil
  refine hK1 _ _ ?_
  clear hK1 K1
  rw [World.setRow_alloc_new]
  exact rules_ret rulesC (by kernel_rfl) _ w (by kernel_rfl) (by kernel_rfl)
end Go.Proofs.YtoijhhacgafblabDoor
