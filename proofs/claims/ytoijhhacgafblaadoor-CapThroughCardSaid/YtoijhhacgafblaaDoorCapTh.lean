/- The walk of CapThrough. -/
import Derived.Test.YtoijhhacgafblaaDoorCapLs
namespace Go.Proofs.YtoijhhacgafblaaDoor
set_option linter.unusedVariables false
set_option linter.unusedSimpArgs false
open Go.ChangeShapes Go.WideShapes Go.ChangeAt Go.RowKit

set_option maxRecDepth 8000 in
set_option maxHeartbeats 1600000 in
theorem CapThrough_walk (ab at_ aa ap ay : Int) (ag : Bool) (bb bt ba bp by_ : Int) (bg : Bool) (cb ct ca cp cy : Int) (cg : Bool) (n p : Int) (w : World) (htab : Tab w.heap.size w) (h1 : 0 ≤ aa) (h2 : aa < 18446744073709551616) (h3 : 0 ≤ n)
    (o1 o2 o3 : Bool) (e1 : rightC (⟨ab, at_, aa, ap, ay, ag⟩ : CapV) = o1) (e2 : rightC (⟨bb, bt, ba, bp, by_, bg⟩ : CapV) = o2) (e3 : rightC (⟨cb, ct, ca, cp, cy, cg⟩ : CapV) = o3) :
    Calls Tryd.prog 8 #[.agg #[.int .u64 ab, .int .u64 at_, .int .u64 aa, .int .i64 ap, .int .i64 ay, .bool ag], .agg #[.int .u64 bb, .int .u64 bt, .int .u64 ba, .int .i64 bp, .int .i64 by_, .bool bg], .agg #[.int .u64 cb, .int .u64 ct, .int .u64 ca, .int .i64 cp, .int .i64 cy, .bool cg], .int .u64 n, .int .i64 p] w fun e w' => e = .returned (.bool true) ∧ Below w.heap.size w w' := by
  have HT := Lib.hid htab
  clear htab
  go_enter Tryd.func8, Tryd.ntmps8
  go_wp2_with fail
  refine (awake_any _ (tab_on HT.out (bAlloc (bAlloc (bAlloc (Below.refl _ _) (.cells #[.int .u64 ab, .int .u64 at_, .int .u64 aa, .int .i64 ap, .int .i64 ay, .bool ag] 24)) (.cells #[.int .u64 bb, .int .u64 bt, .int .u64 ba, .int .i64 bp, .int .i64 by_, .bool bg] 24)) (.cells #[.int .u64 cb, .int .u64 ct, .int .u64 ca, .int .i64 cp, .int .i64 cy, .bool cg] 24)))).mono ?_; rintro e w1 ⟨rfl, hb⟩
  have A1 := Lib.hid (bTrans (bAlloc (bAlloc (Below.refl _ _) (.cells #[.int .u64 bb, .int .u64 bt, .int .u64 ba, .int .i64 bp, .int .i64 by_, .bool bg] 24)) (.cells #[.int .u64 cb, .int .u64 ct, .int .u64 ca, .int .i64 cp, .int .i64 cy, .bool cg] 24)) hb)
  have B1 := Lib.hid (bTrans (bAlloc (Below.refl _ _) (.cells #[.int .u64 cb, .int .u64 ct, .int .u64 ca, .int .i64 cp, .int .i64 cy, .bool cg] 24)) hb)
  have C1 := Lib.hid hb
  clear hb
  obtain ⟨a0', a1', a2', a3', a4', a5'⟩ := cells6 A1.out
  obtain ⟨b0', b1', b2', b3', b4', b5'⟩ := cells6 B1.out
  rw [size_alloc] at b0' b1' b2' b3' b4' b5'
  obtain ⟨c0', c1', c2', c3', c4', c5'⟩ := cells6 C1.out
  rw [size_alloc, size_alloc] at c0' c1' c2' c3' c4' c5'
  go_wp2_with fail
  refine (right_any _ _ _ _ _ _ _).mono ?_; rintro e w2 ⟨rfl, hb⟩; rw [e1]
  have A2 := Lib.hid (bTrans A1.out hb)
  have B2 := Lib.hid (bTrans B1.out hb)
  have C2 := Lib.hid (bTrans C1.out hb)
  clear hb A1 B1 C1
  clear a0' a1' a2' a3' a4' a5' b0' b1' b2' b3' b4' b5' c0' c1' c2' c3' c4' c5'
  obtain ⟨a0', a1', a2', a3', a4', a5'⟩ := cells6 A2.out
  obtain ⟨b0', b1', b2', b3', b4', b5'⟩ := cells6 B2.out
  rw [size_alloc] at b0' b1' b2' b3' b4' b5'
  obtain ⟨c0', c1', c2', c3', c4', c5'⟩ := cells6 C2.out
  rw [size_alloc, size_alloc] at c0' c1' c2' c3' c4' c5'
  go_wp2_with fail
  refine (right_any _ _ _ _ _ _ _).mono ?_; rintro e w3 ⟨rfl, hb⟩; rw [e2]
  have A3 := Lib.hid (bTrans A2.out hb)
  have B3 := Lib.hid (bTrans B2.out hb)
  have C3 := Lib.hid (bTrans C2.out hb)
  clear hb A2 B2 C2
  clear a0' a1' a2' a3' a4' a5' b0' b1' b2' b3' b4' b5' c0' c1' c2' c3' c4' c5'
  obtain ⟨a0', a1', a2', a3', a4', a5'⟩ := cells6 A3.out
  obtain ⟨b0', b1', b2', b3', b4', b5'⟩ := cells6 B3.out
  rw [size_alloc] at b0' b1' b2' b3' b4' b5'
  obtain ⟨c0', c1', c2', c3', c4', c5'⟩ := cells6 C3.out
  rw [size_alloc, size_alloc] at c0' c1' c2' c3' c4' c5'
  go_wp2_with fail
  refine (right_any _ _ _ _ _ _ _).mono ?_; rintro e w4 ⟨rfl, hb⟩; rw [e3]
  have A4 := Lib.hid (bTrans A3.out hb)
  have B4 := Lib.hid (bTrans B3.out hb)
  have C4 := Lib.hid (bTrans C3.out hb)
  clear hb A3 B3 C3
  clear a0' a1' a2' a3' a4' a5' b0' b1' b2' b3' b4' b5' c0' c1' c2' c3' c4' c5'
  obtain ⟨a0', a1', a2', a3', a4', a5'⟩ := cells6 A4.out
  obtain ⟨b0', b1', b2', b3', b4', b5'⟩ := cells6 B4.out
  rw [size_alloc] at b0' b1' b2' b3' b4' b5'
  obtain ⟨c0', c1', c2', c3', c4', c5'⟩ := cells6 C4.out
  rw [size_alloc, size_alloc] at c0' c1' c2' c3' c4' c5'
  have AE := Lib.hid e1; have BE := Lib.hid e2; have CE := Lib.hid e3
  clear e1 e2 e3
  cases o1
  · go_wp2_with fail
    go_ret
    exact ⟨rfl, bTrans (bAlloc (Below.refl _ _) _) A4.out⟩
  cases o2
  · go_wp2_with fail
    go_ret
    exact ⟨rfl, bTrans (bAlloc (Below.refl _ _) _) A4.out⟩
  cases o3
  · go_wp2_with fail
    go_ret
    exact ⟨rfl, bTrans (bAlloc (Below.refl _ _) _) A4.out⟩
  by_cases q1 : p < 0
  · have d1 : decide (p < 0) = true := decide_eq_true (by omega)
    go_wp2_with fail
    go_ret
    exact ⟨rfl, bTrans (bAlloc (Below.refl _ _) _) A4.out⟩
  have d1 : decide (p < 0) = false := decide_eq_false (by omega)
  replace q1 : 0 ≤ p := by omega
  by_cases q2 : 255 < p
  · have d2 : decide (255 < p) = true := decide_eq_true (by omega)
    go_wp2_with fail
    go_ret
    exact ⟨rfl, bTrans (bAlloc (Below.refl _ _) _) A4.out⟩
  replace q2 : p ≤ 255 := by omega
  have d2 : decide (255 < p) = false := decide_eq_false (by omega)
  obtain ⟨xo, hx⟩ : ∃ xo, withinC (⟨ab, at_, aa, ap, ay, ag⟩ : CapV) (⟨bb, bt, ba, bp, by_, bg⟩ : CapV) = xo := ⟨_, rfl⟩
  obtain ⟨yo, hy⟩ : ∃ yo, withinC (⟨bb, bt, ba, bp, by_, bg⟩ : CapV) (⟨cb, ct, ca, cp, cy, cg⟩ : CapV) = yo := ⟨_, rfl⟩
  obtain ⟨zo, hz⟩ : ∃ zo, withinC (⟨ab, at_, aa, ap, ay, ag⟩ : CapV) (⟨cb, ct, ca, cp, cy, cg⟩ : CapV) = zo := ⟨_, rfl⟩
  obtain ⟨eo, he⟩ : ∃ eo, checkC (⟨ab, at_, aa, ap, ay, ag⟩ : CapV) n p = eo := ⟨_, rfl⟩
  obtain ⟨fo, hf⟩ : ∃ fo, checkC ⟨(moveC (⟨bb, bt, ba, bp, by_, bg⟩ : CapV) aa).base, (moveC (⟨bb, bt, ba, bp, by_, bg⟩ : CapV) aa).top, (moveC (⟨bb, bt, ba, bp, by_, bg⟩ : CapV) aa).at_, (moveC (⟨bb, bt, ba, bp, by_, bg⟩ : CapV) aa).perms, (moveC (⟨bb, bt, ba, bp, by_, bg⟩ : CapV) aa).ty, (moveC (⟨bb, bt, ba, bp, by_, bg⟩ : CapV) aa).tag⟩ n p = fo := ⟨_, rfl⟩
  have th1 : xo = true → yo = true → zo = false → ¬ bb < bt ∧ ¬ at_ ≤ ab := by rw [← hx, ← hy, ← hz]; exact fun r s t => through_within (rightC_p AE.out) (rightC_q AE.out) (rightC_p BE.out) (rightC_q BE.out) (rightC_p CE.out) (rightC_q CE.out) r s t
  have th2 : xo = true → eo = 0 → 0 < n → fo = 0 := by rw [← hx, ← he, ← hf]; exact fun r s t => through_check (a := (⟨ab, at_, aa, ap, ay, ag⟩ : CapV)) (b := (⟨bb, bt, ba, bp, by_, bg⟩ : CapV)) (rightC_p AE.out) (rightC_q AE.out) (rightC_p BE.out) (rightC_q BE.out) q1 q2 r s t
  have qm1 : 0 ≤ (moveC (⟨bb, bt, ba, bp, by_, bg⟩ : CapV) aa).at_ := h1
  have qm2 : (moveC (⟨bb, bt, ba, bp, by_, bg⟩ : CapV) aa).at_ < 18446744073709551616 := h2
  have HX := Lib.hid hx; have HY := Lib.hid hy; have HZ := Lib.hid hz; have HE := Lib.hid he; have HF := Lib.hid hf; have T1 := Lib.hid th1; have T2 := Lib.hid th2
  clear hx hy hz he hf th1 th2
  go_wp2_with fail
  refine (within_any _ _ _ _ _ _ _ _ _ _ _ _ _).mono ?_; rintro e w5 ⟨rfl, hb⟩; rw [HX.out]
  have A5 := Lib.hid (bTrans A4.out hb)
  have B5 := Lib.hid (bTrans B4.out hb)
  have C5 := Lib.hid (bTrans C4.out hb)
  clear hb A4 B4 C4
  clear a0' a1' a2' a3' a4' a5' b0' b1' b2' b3' b4' b5' c0' c1' c2' c3' c4' c5'
  obtain ⟨a0', a1', a2', a3', a4', a5'⟩ := cells6 A5.out
  obtain ⟨b0', b1', b2', b3', b4', b5'⟩ := cells6 B5.out
  rw [size_alloc] at b0' b1' b2' b3' b4' b5'
  obtain ⟨c0', c1', c2', c3', c4', c5'⟩ := cells6 C5.out
  rw [size_alloc, size_alloc] at c0' c1' c2' c3' c4' c5'
  go_wp2_with fail
  refine (within_any _ _ _ _ _ _ _ _ _ _ _ _ _).mono ?_; rintro e w6 ⟨rfl, hb⟩; rw [HY.out]
  have A6 := Lib.hid (bTrans A5.out hb)
  have B6 := Lib.hid (bTrans B5.out hb)
  have C6 := Lib.hid (bTrans C5.out hb)
  clear hb A5 B5 C5
  clear a0' a1' a2' a3' a4' a5' b0' b1' b2' b3' b4' b5' c0' c1' c2' c3' c4' c5'
  obtain ⟨a0', a1', a2', a3', a4', a5'⟩ := cells6 A6.out
  obtain ⟨b0', b1', b2', b3', b4', b5'⟩ := cells6 B6.out
  rw [size_alloc] at b0' b1' b2' b3' b4' b5'
  obtain ⟨c0', c1', c2', c3', c4', c5'⟩ := cells6 C6.out
  rw [size_alloc, size_alloc] at c0' c1' c2' c3' c4' c5'
  go_wp2_with fail
  refine (within_any _ _ _ _ _ _ _ _ _ _ _ _ _).mono ?_; rintro e w7 ⟨rfl, hb⟩; rw [HZ.out]
  have A7 := Lib.hid (bTrans A6.out hb)
  have B7 := Lib.hid (bTrans B6.out hb)
  have C7 := Lib.hid (bTrans C6.out hb)
  clear hb A6 B6 C6
  clear a0' a1' a2' a3' a4' a5' b0' b1' b2' b3' b4' b5' c0' c1' c2' c3' c4' c5'
  obtain ⟨a0', a1', a2', a3', a4', a5'⟩ := cells6 A7.out
  obtain ⟨b0', b1', b2', b3', b4', b5'⟩ := cells6 B7.out
  rw [size_alloc] at b0' b1' b2' b3' b4' b5'
  obtain ⟨c0', c1', c2', c3', c4', c5'⟩ := cells6 C7.out
  rw [size_alloc, size_alloc] at c0' c1' c2' c3' c4' c5'
  have key : (xo && yo && !zo) = false ∨ (decide (bb < bt) = false ∧ decide (at_ ≤ ab) = false) := by
    by_cases hq : (xo && yo && !zo) = true
    · simp only [Bool.and_eq_true, Bool.not_eq_true'] at hq; have := T1.out hq.1.1 hq.1.2 hq.2; exact .inr ⟨decide_eq_false (by omega), decide_eq_false (by omega)⟩
    · exact .inl (by simpa using hq)
  have KEY := Lib.hid key
  clear key
  have goal : (xo = false) ∨ (xo = true ∧ yo = false) ∨ (xo = true ∧ yo = true ∧ zo = true) ∨ (xo = true ∧ yo = true ∧ zo = false ∧ decide (bb < bt) = false ∧ decide (at_ ≤ ab) = false) := by
    have k := KEY.out
    cases xo <;> cases yo <;> cases zo <;> simp at k ⊢ <;> omega
  clear KEY T1
  have T3 : Hid (xo = false ∨ eo ≠ 0 ∨ n = 0 ∨ fo = 0) := Lib.hid (by cases xo; exact .inl rfl; right; by_cases a : eo = 0; right; by_cases b : n = 0; exact .inl b; exact .inr (T2.out rfl a (by omega)); exact .inl a)
  clear T2
  rcases goal with rfl | ⟨rfl, rfl⟩ | ⟨rfl, rfl, rfl⟩ | ⟨rfl, rfl, rfl, b1, b2⟩
  · go_wp2_with fail
    refine (check_any _ _ _ _ _ _ n p _ h1 h2 h3).mono ?_; rintro e w8 ⟨rfl, hb⟩; rw [HE.out]
    have A8 := Lib.hid (bTrans A7.out hb)
    have B8 := Lib.hid (bTrans B7.out hb)
    have C8 := Lib.hid (bTrans C7.out hb)
    clear hb A7 B7 C7
    clear a0' a1' a2' a3' a4' a5' b0' b1' b2' b3' b4' b5' c0' c1' c2' c3' c4' c5'
    obtain ⟨a0', a1', a2', a3', a4', a5'⟩ := cells6 A8.out
    obtain ⟨b0', b1', b2', b3', b4', b5'⟩ := cells6 B8.out
    rw [size_alloc] at b0' b1' b2' b3' b4' b5'
    obtain ⟨c0', c1', c2', c3', c4', c5'⟩ := cells6 C8.out
    rw [size_alloc, size_alloc] at c0' c1' c2' c3' c4' c5'
    go_wp2_with fail
    refine (move_any _ _ _ _ _ _ aa _).mono ?_; rintro e w9 ⟨rfl, hb⟩; have HB9 := Lib.hid hb; clear hb
    go_wp2_with fail
    refine (check_any _ _ _ _ _ _ n p _ qm1 qm2 h3).mono ?_; rintro e w10 ⟨rfl, hb⟩; rw [HF.out]; have HB10 := Lib.hid (bTrans HB9.out hb); clear hb
    have FIN := Lib.hid (bTrans (bAlloc (Below.refl _ _) _) (bTrans A8.out HB10.out))
    clear a0' a1' a2' a3' a4' a5' b0' b1' b2' b3' b4' b5' c0' c1' c2' c3' c4' c5'
    go_wp2_with fail
    go_ret
    exact ⟨rfl, FIN.out⟩
  · go_wp2_with fail
    refine (check_any _ _ _ _ _ _ n p _ h1 h2 h3).mono ?_; rintro e w8 ⟨rfl, hb⟩; rw [HE.out]
    have A8 := Lib.hid (bTrans A7.out hb)
    have B8 := Lib.hid (bTrans B7.out hb)
    have C8 := Lib.hid (bTrans C7.out hb)
    clear hb A7 B7 C7
    clear a0' a1' a2' a3' a4' a5' b0' b1' b2' b3' b4' b5' c0' c1' c2' c3' c4' c5'
    obtain ⟨a0', a1', a2', a3', a4', a5'⟩ := cells6 A8.out
    obtain ⟨b0', b1', b2', b3', b4', b5'⟩ := cells6 B8.out
    rw [size_alloc] at b0' b1' b2' b3' b4' b5'
    obtain ⟨c0', c1', c2', c3', c4', c5'⟩ := cells6 C8.out
    rw [size_alloc, size_alloc] at c0' c1' c2' c3' c4' c5'
    go_wp2_with fail
    refine (move_any _ _ _ _ _ _ aa _).mono ?_; rintro e w9 ⟨rfl, hb⟩; have HB9 := Lib.hid hb; clear hb
    go_wp2_with fail
    refine (check_any _ _ _ _ _ _ n p _ qm1 qm2 h3).mono ?_; rintro e w10 ⟨rfl, hb⟩; rw [HF.out]; have HB10 := Lib.hid (bTrans HB9.out hb); clear hb
    have FIN := Lib.hid (bTrans (bAlloc (Below.refl _ _) _) (bTrans A8.out HB10.out))
    clear a0' a1' a2' a3' a4' a5' b0' b1' b2' b3' b4' b5' c0' c1' c2' c3' c4' c5'
    rcases T3.out with h | h | h | h
    · cases h
    · have h' : (eo == 0) = false := beq_false_of_ne h
      have h'' : (eo != 0) = true := bne_iff_ne.2 h
      go_wp2_with fail
      all_goals go_ret
      all_goals exact ⟨rfl, FIN.out⟩
    · have h' : (n == 0) = true := beq_iff_eq.2 h
      go_wp2_with fail
      all_goals go_ret
      all_goals exact ⟨rfl, FIN.out⟩
    · have h' : (fo == 0) = true := beq_iff_eq.2 h
      go_wp2_with fail
      all_goals go_ret
      all_goals exact ⟨rfl, FIN.out⟩
  · go_wp2_with fail
    refine (check_any _ _ _ _ _ _ n p _ h1 h2 h3).mono ?_; rintro e w8 ⟨rfl, hb⟩; rw [HE.out]
    have A8 := Lib.hid (bTrans A7.out hb)
    have B8 := Lib.hid (bTrans B7.out hb)
    have C8 := Lib.hid (bTrans C7.out hb)
    clear hb A7 B7 C7
    clear a0' a1' a2' a3' a4' a5' b0' b1' b2' b3' b4' b5' c0' c1' c2' c3' c4' c5'
    obtain ⟨a0', a1', a2', a3', a4', a5'⟩ := cells6 A8.out
    obtain ⟨b0', b1', b2', b3', b4', b5'⟩ := cells6 B8.out
    rw [size_alloc] at b0' b1' b2' b3' b4' b5'
    obtain ⟨c0', c1', c2', c3', c4', c5'⟩ := cells6 C8.out
    rw [size_alloc, size_alloc] at c0' c1' c2' c3' c4' c5'
    go_wp2_with fail
    refine (move_any _ _ _ _ _ _ aa _).mono ?_; rintro e w9 ⟨rfl, hb⟩; have HB9 := Lib.hid hb; clear hb
    go_wp2_with fail
    refine (check_any _ _ _ _ _ _ n p _ qm1 qm2 h3).mono ?_; rintro e w10 ⟨rfl, hb⟩; rw [HF.out]; have HB10 := Lib.hid (bTrans HB9.out hb); clear hb
    have FIN := Lib.hid (bTrans (bAlloc (Below.refl _ _) _) (bTrans A8.out HB10.out))
    clear a0' a1' a2' a3' a4' a5' b0' b1' b2' b3' b4' b5' c0' c1' c2' c3' c4' c5'
    rcases T3.out with h | h | h | h
    · cases h
    · have h' : (eo == 0) = false := beq_false_of_ne h
      have h'' : (eo != 0) = true := bne_iff_ne.2 h
      go_wp2_with fail
      all_goals go_ret
      all_goals exact ⟨rfl, FIN.out⟩
    · have h' : (n == 0) = true := beq_iff_eq.2 h
      go_wp2_with fail
      all_goals go_ret
      all_goals exact ⟨rfl, FIN.out⟩
    · have h' : (fo == 0) = true := beq_iff_eq.2 h
      go_wp2_with fail
      all_goals go_ret
      all_goals exact ⟨rfl, FIN.out⟩
  · go_wp2_with fail
    refine (check_any _ _ _ _ _ _ n p _ h1 h2 h3).mono ?_; rintro e w8 ⟨rfl, hb⟩; rw [HE.out]
    have A8 := Lib.hid (bTrans A7.out hb)
    have B8 := Lib.hid (bTrans B7.out hb)
    have C8 := Lib.hid (bTrans C7.out hb)
    clear hb A7 B7 C7
    clear a0' a1' a2' a3' a4' a5' b0' b1' b2' b3' b4' b5' c0' c1' c2' c3' c4' c5'
    obtain ⟨a0', a1', a2', a3', a4', a5'⟩ := cells6 A8.out
    obtain ⟨b0', b1', b2', b3', b4', b5'⟩ := cells6 B8.out
    rw [size_alloc] at b0' b1' b2' b3' b4' b5'
    obtain ⟨c0', c1', c2', c3', c4', c5'⟩ := cells6 C8.out
    rw [size_alloc, size_alloc] at c0' c1' c2' c3' c4' c5'
    go_wp2_with fail
    refine (move_any _ _ _ _ _ _ aa _).mono ?_; rintro e w9 ⟨rfl, hb⟩; have HB9 := Lib.hid hb; clear hb
    go_wp2_with fail
    refine (check_any _ _ _ _ _ _ n p _ qm1 qm2 h3).mono ?_; rintro e w10 ⟨rfl, hb⟩; rw [HF.out]; have HB10 := Lib.hid (bTrans HB9.out hb); clear hb
    have FIN := Lib.hid (bTrans (bAlloc (Below.refl _ _) _) (bTrans A8.out HB10.out))
    clear a0' a1' a2' a3' a4' a5' b0' b1' b2' b3' b4' b5' c0' c1' c2' c3' c4' c5'
    rcases T3.out with h | h | h | h
    · cases h
    · have h' : (eo == 0) = false := beq_false_of_ne h
      have h'' : (eo != 0) = true := bne_iff_ne.2 h
      go_wp2_with fail
      all_goals go_ret
      all_goals exact ⟨rfl, FIN.out⟩
    · have h' : (n == 0) = true := beq_iff_eq.2 h
      go_wp2_with fail
      all_goals go_ret
      all_goals exact ⟨rfl, FIN.out⟩
    · have h' : (fo == 0) = true := beq_iff_eq.2 h
      go_wp2_with fail
      all_goals go_ret
      all_goals exact ⟨rfl, FIN.out⟩
end Go.Proofs.YtoijhhacgafblaaDoor
