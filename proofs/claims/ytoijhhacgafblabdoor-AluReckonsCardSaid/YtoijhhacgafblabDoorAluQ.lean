/- awake of layer 6. -/
import Derived.Test.YtoijhhacgafblabDoorAluP
namespace Go.Proofs.YtoijhhacgafblabDoor
set_option linter.unusedVariables false
set_option linter.unusedSimpArgs false
open Go.Joins Go.ChangeShapes Go.WideShapes Go.ChangeAt Go.RowKit

theorem exc_blt : decide (wrap64 18446744073709551615 < wrap64 0) = true := by decide +kernel
theorem exc_bltu : decide ((18446744073709551615 : Int) < 0) = false := by decide +kernel
set_option maxRecDepth 8000 in
theorem awake_any (w : World) (hn : NT w) : Calls Tryd.prog 10 #[] w fun e w' => e = .returned (.bool true) ∧ Below w.heap.size w w' := by
  have HN := Lib.hid hn
  clear hn
  go_enter Tryd.func10, Tryd.ntmps10
  go_wp2_with fail
  refine (of_add 18446744073709551615 1 _ (by decide) (by decide)).mono ?_; rintro e w1 ⟨rfl, hb⟩; rw [ex_add]
  have B1 := Lib.hid (hb)
  clear hb
  go_wp2_with fail
  refine (of_sub 0 1 _ (by decide) (by decide)).mono ?_; rintro e w2 ⟨rfl, hb⟩; rw [ex_sub]
  have B2 := Lib.hid (bTrans B1.out hb)
  clear hb B1
  go_wp2_with fail
  refine (of_addw 2147483647 1 _ (by decide) (by decide)).mono ?_; rintro e w3 ⟨rfl, hb⟩; rw [ex_addw]
  have B3 := Lib.hid (bTrans B2.out hb)
  clear hb B2
  go_wp2_with fail
  refine (of_sraw 2147483648 4 _ (by decide) (by decide)).mono ?_; rintro e w4 ⟨rfl, hb⟩; rw [ex_sraw]
  have B4 := Lib.hid (bTrans B3.out hb)
  clear hb B3
  go_wp2_with fail
  refine (of_divw 7 0 _ (by decide) (by decide)).mono ?_; rintro e w5 ⟨rfl, hb⟩; rw [ex_divw]
  have B5 := Lib.hid (bTrans B4.out hb)
  clear hb B4
  go_wp2_with fail
  refine (of_remuw 2147483648 0 _ (by decide) (by decide)).mono ?_; rintro e w6 ⟨rfl, hb⟩; rw [ex_remuw]
  have B6 := Lib.hid (bTrans B5.out hb)
  clear hb B5
  go_wp2_with fail
  refine (find_blt _).mono ?_; rintro e w7 ⟨rfl, hb⟩
  have B7 := Lib.hid (bTrans B6.out hb)
  clear hb B6
  go_wp2_with fail
  refine (holds_blt 18446744073709551615 0 _ (HN.out.on B7.out) (by decide) (by decide)).mono ?_; rintro e w' ⟨rfl, rfl⟩; rw [exc_blt]
  go_wp2_with fail
  refine (find_bltu _).mono ?_; rintro e w8 ⟨rfl, hb⟩
  have B8 := Lib.hid (bTrans B7.out hb)
  clear hb B7
  go_wp2_with fail
  refine (holds_bltu 18446744073709551615 0 _ (HN.out.on B8.out) (by decide) (by decide)).mono ?_; rintro e w' ⟨rfl, rfl⟩; rw [exc_bltu]
  go_wp2_with fail
  go_ret
  exact ⟨rfl, B8.out⟩
end Go.Proofs.YtoijhhacgafblabDoor
