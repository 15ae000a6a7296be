/- The walk of CapChecks. -/
import Derived.Test.YtoijhhacgafblaaDoorCapZ
import Derived.Test.YtoijhhacgafblaaDoorCapLs
namespace Go.Proofs.YtoijhhacgafblaaDoor
set_option linter.unusedVariables false
set_option linter.unusedSimpArgs false
open Go.ChangeShapes Go.WideShapes Go.ChangeAt Go.RowKit

set_option maxRecDepth 8000 in
set_option maxHeartbeats 1600000 in
theorem CapChecks_walk (ab at_ aa ap ay : Int) (ag : Bool) (bb bt ba bp by_ : Int) (bg : Bool) (n p : Int) (w : World) (htab : Tab w.heap.size w) (b0 : 0 ≤ ab) (b1 : ab < 18446744073709551616) (t0 : 0 ≤ at_) (t1 : at_ < 18446744073709551616) (a0 : 0 ≤ aa) (a1 : aa < 18446744073709551616) (h3 : 0 ≤ n)
    (o1 o2 : Bool) (e1 : rightC (⟨ab, at_, aa, ap, ay, ag⟩ : CapV) = o1) (e2 : rightC (⟨bb, bt, ba, bp, by_, bg⟩ : CapV) = o2) :
    Calls Tryd.prog 5 #[.agg #[.int .u64 ab, .int .u64 at_, .int .u64 aa, .int .i64 ap, .int .i64 ay, .bool ag], .agg #[.int .u64 bb, .int .u64 bt, .int .u64 ba, .int .i64 bp, .int .i64 by_, .bool bg], .int .u64 n, .int .i64 p] w fun e w' => e = .returned (.bool true) ∧ Below w.heap.size w w' := by
  have HT := Lib.hid htab
  clear htab
  go_enter Tryd.func5, Tryd.ntmps5
  go_wp2_with fail
  refine (awake_any _ (tab_on HT.out (bAlloc (bAlloc (Below.refl _ _) (.cells #[.int .u64 ab, .int .u64 at_, .int .u64 aa, .int .i64 ap, .int .i64 ay, .bool ag] 24)) (.cells #[.int .u64 bb, .int .u64 bt, .int .u64 ba, .int .i64 bp, .int .i64 by_, .bool bg] 24)))).mono ?_; rintro e w1 ⟨rfl, hb⟩
  have A1 := Lib.hid (bTrans (bAlloc (Below.refl _ _) (.cells #[.int .u64 bb, .int .u64 bt, .int .u64 ba, .int .i64 bp, .int .i64 by_, .bool bg] 24)) hb)
  have B1 := Lib.hid hb
  clear hb
  obtain ⟨a0', a1', a2', a3', a4', a5'⟩ := cells6 A1.out
  obtain ⟨b0', b1', b2', b3', b4', b5'⟩ := cells6 B1.out
  rw [size_alloc] at b0' b1' b2' b3' b4' b5'
  go_wp2_with fail
  refine (right_any _ _ _ _ _ _ _).mono ?_; rintro e w2 ⟨rfl, hb⟩; rw [e1]
  have A2 := Lib.hid (bTrans A1.out hb)
  have B2 := Lib.hid (bTrans B1.out hb)
  clear hb A1 B1
  clear a0' a1' a2' a3' a4' a5' b0' b1' b2' b3' b4' b5'
  obtain ⟨a0', a1', a2', a3', a4', a5'⟩ := cells6 A2.out
  obtain ⟨b0', b1', b2', b3', b4', b5'⟩ := cells6 B2.out
  rw [size_alloc] at b0' b1' b2' b3' b4' b5'
  go_wp2_with fail
  refine (right_any _ _ _ _ _ _ _).mono ?_; rintro e w3 ⟨rfl, hb⟩; rw [e2]
  have A3 := Lib.hid (bTrans A2.out hb)
  have B3 := Lib.hid (bTrans B2.out hb)
  clear hb A2 B2
  clear a0' a1' a2' a3' a4' a5' b0' b1' b2' b3' b4' b5'
  obtain ⟨a0', a1', a2', a3', a4', a5'⟩ := cells6 A3.out
  obtain ⟨b0', b1', b2', b3', b4', b5'⟩ := cells6 B3.out
  rw [size_alloc] at b0' b1' b2' b3' b4' b5'
  have AE := Lib.hid e1; have BE := Lib.hid e2
  clear e1 e2
  cases o1
  · go_wp2_with fail
    go_ret
    exact ⟨rfl, bTrans (bAlloc (Below.refl _ _) _) A3.out⟩
  cases o2
  · go_wp2_with fail
    go_ret
    exact ⟨rfl, bTrans (bAlloc (Below.refl _ _) _) A3.out⟩
  by_cases q1 : p < 0
  · have d1 : decide (p < 0) = true := decide_eq_true (by omega)
    go_wp2_with fail
    go_ret
    exact ⟨rfl, bTrans (bAlloc (Below.refl _ _) _) A3.out⟩
  have d1 : decide (p < 0) = false := decide_eq_false (by omega)
  by_cases q2 : 255 < p
  · have d2 : decide (255 < p) = true := decide_eq_true (by omega)
    go_wp2_with fail
    go_ret
    exact ⟨rfl, bTrans (bAlloc (Below.refl _ _) _) A3.out⟩
  have d2 : decide (255 < p) = false := decide_eq_false (by omega)
  obtain ⟨xo, hx⟩ : ∃ xo, withinC (⟨ab, at_, aa, ap, ay, ag⟩ : CapV) (⟨bb, bt, ba, bp, by_, bg⟩ : CapV) = xo := ⟨_, rfl⟩
  obtain ⟨eo, he⟩ : ∃ eo, checkC (⟨ab, at_, aa, ap, ay, ag⟩ : CapV) n p = eo := ⟨_, rfl⟩
  obtain ⟨s1, hs⟩ : ∃ s, capText (⟨ab, at_, aa, ap, ay, ag⟩ : CapV) = s := ⟨_, rfl⟩
  have HX := Lib.hid hx; have HE := Lib.hid he; have HS := Lib.hid hs
  have RX : Hid (rwithinC (⟨ab, at_, aa, ap, ay, ag⟩ : CapV) (⟨bb, bt, ba, bp, by_, bg⟩ : CapV) = xo) := Lib.hid (by rw [← within_is _ _ AE.out BE.out]; exact hx)
  have RE : Hid (rcheckC (⟨ab, at_, aa, ap, ay, ag⟩ : CapV) n p = eo) := Lib.hid (by rw [← check_is _ _ _ AE.out]; exact he)
  have P1 : 0 ≤ ap := rightC_p AE.out
  have P2 : ap ≤ 255 := rightC_q AE.out
  have P3 : 0 ≤ bp := rightC_p BE.out
  have P4 : bp ≤ 255 := rightC_q BE.out
  clear hx he hs
  go_wp2_with fail
  refine (check_any _ _ _ _ _ _ n p _ a0 a1 h3).mono ?_; rintro e w4 ⟨rfl, hb⟩; rw [HE.out]
  have A4 := Lib.hid (bTrans A3.out hb)
  have B4 := Lib.hid (bTrans B3.out hb)
  clear hb A3 B3
  clear a0' a1' a2' a3' a4' a5' b0' b1' b2' b3' b4' b5'
  obtain ⟨a0', a1', a2', a3', a4', a5'⟩ := cells6 A4.out
  obtain ⟨b0', b1', b2', b3', b4', b5'⟩ := cells6 B4.out
  rw [size_alloc] at b0' b1' b2' b3' b4' b5'
  go_wp2_with fail
  refine (within_any _ _ _ _ _ _ _ _ _ _ _ _ _).mono ?_; rintro e w5 ⟨rfl, hb⟩; rw [HX.out]
  have A5 := Lib.hid (bTrans A4.out hb)
  have B5 := Lib.hid (bTrans B4.out hb)
  clear hb A4 B4
  clear a0' a1' a2' a3' a4' a5' b0' b1' b2' b3' b4' b5'
  obtain ⟨a0', a1', a2', a3', a4', a5'⟩ := cells6 A5.out
  obtain ⟨b0', b1', b2', b3', b4', b5'⟩ := cells6 B5.out
  rw [size_alloc] at b0' b1' b2' b3' b4' b5'
  go_wp2_with fail
  refine (text_all _ _ _ _ _ _ _ (tab_on HT.out (bTrans (bAlloc (Below.refl _ _) _) A5.out)) AE.out b0 b1 t0 t1 a0 a1).mono ?_; rintro e w6 ⟨rfl, hb⟩; rw [HS.out]
  have A6 := Lib.hid (bTrans A5.out hb)
  have B6 := Lib.hid (bTrans B5.out hb)
  clear hb A5 B5
  clear a0' a1' a2' a3' a4' a5' b0' b1' b2' b3' b4' b5'
  obtain ⟨a0', a1', a2', a3', a4', a5'⟩ := cells6 A6.out
  obtain ⟨b0', b1', b2', b3', b4', b5'⟩ := cells6 B6.out
  rw [size_alloc] at b0' b1' b2' b3' b4' b5'
  go_wp2_with fail
  refine (rcheck0_any _ _ _ _ _ _ n p _ a0 t1 h3).mono ?_; rintro e w7 ⟨rfl, hb⟩; rw [RE.out]
  have A7 := Lib.hid (bTrans A6.out hb)
  have B7 := Lib.hid (bTrans B6.out hb)
  clear hb A6 B6
  clear a0' a1' a2' a3' a4' a5' b0' b1' b2' b3' b4' b5'
  obtain ⟨a0', a1', a2', a3', a4', a5'⟩ := cells6 A7.out
  obtain ⟨b0', b1', b2', b3', b4', b5'⟩ := cells6 B7.out
  rw [size_alloc] at b0' b1' b2' b3' b4' b5'
  go_wp2_with fail
  refine (rwithin0_any _ _ _ _ _ _ _ _ _ _ _ _ _ P1 P2 P3 P4).mono ?_; rintro e w8 ⟨rfl, hb⟩; rw [RX.out]
  have A8 := Lib.hid (bTrans A7.out hb)
  have B8 := Lib.hid (bTrans B7.out hb)
  clear hb A7 B7
  clear a0' a1' a2' a3' a4' a5' b0' b1' b2' b3' b4' b5'
  obtain ⟨a0', a1', a2', a3', a4', a5'⟩ := cells6 A8.out
  obtain ⟨b0', b1', b2', b3', b4', b5'⟩ := cells6 B8.out
  rw [size_alloc] at b0' b1' b2' b3' b4' b5'
  go_wp2_with fail
  refine (rtext_all _ _ _ _ _ _ _ AE.out b0 b1 t0 t1 a0 a1).mono ?_; rintro e w9 ⟨rfl, hb⟩; rw [HS.out]
  have A9 := Lib.hid (bTrans A8.out hb)
  have B9 := Lib.hid (bTrans B8.out hb)
  clear hb A8 B8
  clear a0' a1' a2' a3' a4' a5' b0' b1' b2' b3' b4' b5'
  obtain ⟨a0', a1', a2', a3', a4', a5'⟩ := cells6 A9.out
  obtain ⟨b0', b1', b2', b3', b4', b5'⟩ := cells6 B9.out
  rw [size_alloc] at b0' b1' b2' b3' b4' b5'
  go_wp2_with fail
  go_ret
  exact ⟨rfl, bTrans (bAlloc (Below.refl _ _) _) A9.out⟩
end Go.Proofs.YtoijhhacgafblaaDoor
