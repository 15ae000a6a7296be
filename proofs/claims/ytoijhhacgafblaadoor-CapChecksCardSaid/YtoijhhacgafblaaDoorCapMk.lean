/- The walk of CapMakes. -/
import Derived.Test.YtoijhhacgafblaaDoorCapS
namespace Go.Proofs.YtoijhhacgafblaaDoor
set_option linter.unusedVariables false
set_option linter.unusedSimpArgs false
open Go.ChangeShapes Go.WideShapes Go.ChangeAt Go.RowKit

theorem rightC_y {c : CapV} (h : rightC c = true) : -1 ≤ c.ty := by simp only [rightC, Bool.and_eq_true, decide_eq_true_eq] at h; omega

set_option maxHeartbeats 1600000 in
theorem CapMakes_walk (cb ct ca cp cy : Int) (cg : Bool) (x p : Int) (w : World) (htab : Tab w.heap.size w) (h1 : 0 ≤ ca) (h2 : ca < 18446744073709551616) (h3 : 0 ≤ x) (h4 : ct < 18446744073709551616) (o1 : Bool) (e1 : rightC (⟨cb, ct, ca, cp, cy, cg⟩ : CapV) = o1) :
    Calls Tryd.prog 3 #[.agg #[.int .u64 cb, .int .u64 ct, .int .u64 ca, .int .i64 cp, .int .i64 cy, .bool cg], .int .u64 x, .int .i64 p] w fun e w' => e = .returned (.bool true) ∧ Below w.heap.size w w' := by
  have HT := Lib.hid htab
  clear htab
  have CE := Lib.hid e1
  clear e1
  go_enter Tryd.func3, Tryd.ntmps3
  go_wp2_with fail
  refine (awake_any _ (tab_on HT.out (bAlloc (Below.refl _ _) (.cells #[.int .u64 cb, .int .u64 ct, .int .u64 ca, .int .i64 cp, .int .i64 cy, .bool cg] 24)))).mono ?_; rintro e w1 ⟨rfl, hb⟩
  have C1 := Lib.hid hb
  clear hb
  obtain ⟨c0, c1, c2, c3, c4, c5⟩ := cells6 C1.out
  go_wp2_with fail
  refine (right_any _ _ _ _ _ _ _).mono ?_; rintro e w2 ⟨rfl, hb⟩; rw [CE.out]
  have C2 := Lib.hid (bTrans C1.out hb)
  clear hb c0 c1 c2 c3 c4 c5
  go_wp2_with fail
  refine (int_any _ _).mono ?_; rintro e w3 ⟨rfl, hb⟩; dsimp only [intC] at *
  have C3 := Lib.hid (hb ▸ bAlloc C2.out _)
  clear hb
  go_wp2_with fail
  refine (null_any _).mono ?_; rintro e w4 ⟨rfl, hb⟩; dsimp only [intC]
  have I4 := Lib.hid (bAlloc hb (.cells #[.int .u64 0, .int .u64 0, .int .u64 0, .int .i64 0, .int .i64 (-1), .bool false] 24))
  have C4 := Lib.hid (bAlloc (bTrans (bAlloc C3.out (.cells #[.int .u64 0, .int .u64 0, .int .u64 x, .int .i64 0, .int .i64 (-1), .bool false] 24)) hb) (.cells #[.int .u64 0, .int .u64 0, .int .u64 0, .int .i64 0, .int .i64 (-1), .bool false] 24))
  clear hb
  go_wp2_with fail
  refine (root_any _ _).mono ?_; rintro e w5 ⟨rfl, hb⟩; dsimp only [rootC]
  have I5 := Lib.hid (bAlloc (bTrans I4.out hb) (.cells #[.int .u64 0, .int .u64 x, .int .u64 0, .int .i64 255, .int .i64 (-1), .bool true] 24))
  have C5 := Lib.hid (bAlloc (bTrans C4.out hb) (.cells #[.int .u64 0, .int .u64 x, .int .u64 0, .int .i64 255, .int .i64 (-1), .bool true] 24))
  have N5 := Lib.hid (bAlloc hb (.cells #[.int .u64 0, .int .u64 x, .int .u64 0, .int .i64 255, .int .i64 (-1), .bool true] 24))
  have R5 := Lib.hid (Below.refl (w5.alloc (.cells #[.int .u64 0, .int .u64 x, .int .u64 0, .int .i64 255, .int .i64 (-1), .bool true] 24)).heap.size (w5.alloc (.cells #[.int .u64 0, .int .u64 x, .int .u64 0, .int .i64 255, .int .i64 (-1), .bool true] 24)))
  clear hb I4 C4 C1 C2 C3
  obtain ⟨i0, i1, i2, i3, i4, i5⟩ := cells6 I5.out
  obtain ⟨n0, n1, n2, n3, n4, n5⟩ := cells6 N5.out
  obtain ⟨r0, r1, r2, r3, r4, r5⟩ := cells6 R5.out
  go_wp2_with fail
  go_region_held3 (fun W => W.cell? ⟨w3.heap.size, 0, none⟩ = some (.int .u64 0) ∧ W.cell? ⟨w3.heap.size, 1, none⟩ = some (.int .u64 0) ∧ W.cell? ⟨w3.heap.size, 2, none⟩ = some (.int .u64 x) ∧ W.cell? ⟨w3.heap.size, 3, none⟩ = some (.int .i64 0) ∧ W.cell? ⟨w3.heap.size, 4, none⟩ = some (.int .i64 (-1)) ∧ W.cell? ⟨w3.heap.size, 5, none⟩ = some (.bool false) ∧ W.cell? ⟨w4.heap.size, 0, none⟩ = some (.int .u64 0) ∧ W.cell? ⟨w4.heap.size, 1, none⟩ = some (.int .u64 0) ∧ W.cell? ⟨w4.heap.size, 2, none⟩ = some (.int .u64 0) ∧ W.cell? ⟨w4.heap.size, 3, none⟩ = some (.int .i64 0) ∧ W.cell? ⟨w4.heap.size, 4, none⟩ = some (.int .i64 (-1)) ∧ W.cell? ⟨w4.heap.size, 5, none⟩ = some (.bool false) ∧ W.cell? ⟨w5.heap.size, 0, none⟩ = some (.int .u64 0) ∧ W.cell? ⟨w5.heap.size, 1, none⟩ = some (.int .u64 x) ∧ W.cell? ⟨w5.heap.size, 2, none⟩ = some (.int .u64 0) ∧ W.cell? ⟨w5.heap.size, 3, none⟩ = some (.int .i64 255) ∧ W.cell? ⟨w5.heap.size, 4, none⟩ = some (.int .i64 (-1)) ∧ W.cell? ⟨w5.heap.size, 5, none⟩ = some (.bool true))
    (first | exact six2 (cells6 (bTrans I5.out HB8.out)) (six2 (cells6 (bTrans N5.out HB8.out)) (cells6 (bTrans R5.out HB8.out))) | exact six2 (cells6 (bTrans I5.out HB7.out)) (six2 (cells6 (bTrans N5.out HB7.out)) (cells6 (bTrans R5.out HB7.out))) | exact six2 (cells6 (bTrans I5.out HB6.out)) (six2 (cells6 (bTrans N5.out HB6.out)) (cells6 (bTrans R5.out HB6.out))) | go_keep)
    (first
      | (go_at_call 16; (with_reducible refine (rroot_any x _).mono ?_); rintro e w8 ⟨rfl, hb⟩; dsimp only [rootC]; have HB8 := Lib.hid (bTrans HB7.out hb); clear hb)
      | (go_at_call 15; (with_reducible refine (rint_any x _).mono ?_); rintro e w6 ⟨rfl, hb⟩; dsimp only [intC]; have HB6 := Lib.hid (undrew hb); clear hb)
      | (go_at_call 15; (with_reducible refine (rint_any 0 _).mono ?_); rintro e w7 ⟨rfl, hb⟩; dsimp only [intC]; have HB7 := Lib.hid (bTrans HB6.out hb); clear hb))
  have C6 := Lib.hid (bTrans C5.out HB8.out)
  clear HB6 HB7 HB8 I5 C5 N5 R5 i0 i1 i2 i3 i4 i5 n0 n1 n2 n3 n4 n5 r0 r1 r2 r3 r4 r5
  cases o1
  · go_wp2_with fail
    go_ret
    exact ⟨rfl, bTrans (bAlloc (Below.refl _ _) _) C6.out⟩
  · obtain ⟨c0, c1, c2, c3, c4, c5⟩ := cells6 C6.out
    go_wp2_with fail
    refine (move_any _ _ _ _ _ _ x _).mono ?_; rintro e w9 ⟨rfl, hb⟩
    generalize hs : moveC (⟨cb, ct, ca, cp, cy, cg⟩ : CapV) x = mv
    have ME := Lib.hid hs
    have C9 := Lib.hid (bAlloc (bTrans C6.out hb) (.cells #[.int .u64 mv.base, .int .u64 mv.top, .int .u64 mv.at_, .int .i64 mv.perms, .int .i64 mv.ty, .bool mv.tag] 24))
    clear hb hs c0 c1 c2 c3 c4 c5 C6
    obtain ⟨c0, c1, c2, c3, c4, c5⟩ := cells6 C9.out
    go_wp2_with fail
    refine (bound_any _ _ _ _ _ _ x _ h1 h2 h3 h4).mono ?_; rintro e w10 ⟨rfl, hb⟩
    generalize hs : boundC (⟨cb, ct, ca, cp, cy, cg⟩ : CapV) x = bv
    have BE := Lib.hid hs
    have C10 := Lib.hid (bAlloc (bTrans C9.out hb) (.cells #[.int .u64 bv.base, .int .u64 bv.top, .int .u64 bv.at_, .int .i64 bv.perms, .int .i64 bv.ty, .bool bv.tag] 24))
    have M10 := Lib.hid (bAlloc hb (.cells #[.int .u64 bv.base, .int .u64 bv.top, .int .u64 bv.at_, .int .i64 bv.perms, .int .i64 bv.ty, .bool bv.tag] 24))
    clear hb hs c0 c1 c2 c3 c4 c5 C9
    obtain ⟨c0, c1, c2, c3, c4, c5⟩ := cells6 C10.out
    go_wp2_with fail
    refine (and_any _ _ _ _ _ _ p _).mono ?_; rintro e w11 ⟨rfl, hb⟩
    generalize hs : andC (⟨cb, ct, ca, cp, cy, cg⟩ : CapV) p = av
    have AE := Lib.hid hs
    have C11 := Lib.hid (bAlloc (bTrans C10.out hb) (.cells #[.int .u64 av.base, .int .u64 av.top, .int .u64 av.at_, .int .i64 av.perms, .int .i64 av.ty, .bool av.tag] 24))
    have M11 := Lib.hid (bAlloc (bTrans M10.out hb) (.cells #[.int .u64 av.base, .int .u64 av.top, .int .u64 av.at_, .int .i64 av.perms, .int .i64 av.ty, .bool av.tag] 24))
    have B11 := Lib.hid (bAlloc hb (.cells #[.int .u64 av.base, .int .u64 av.top, .int .u64 av.at_, .int .i64 av.perms, .int .i64 av.ty, .bool av.tag] 24))
    clear hb hs c0 c1 c2 c3 c4 c5 C10 M10
    obtain ⟨c0, c1, c2, c3, c4, c5⟩ := cells6 C11.out
    go_wp2_with fail
    refine (clear_any _ _ _ _ _ _ _).mono ?_; rintro e w12 ⟨rfl, hw⟩
    have hb := hw ▸ (bAlloc (bAlloc (Below.refl _ _) _) _)
    have C13 := Lib.hid (bAlloc (bTrans C11.out hb) (.cells #[.int .u64 cb, .int .u64 ct, .int .u64 ca, .int .i64 cp, .int .i64 cy, .bool false] 24))
    have M13 := Lib.hid (bAlloc (bTrans M11.out hb) (.cells #[.int .u64 cb, .int .u64 ct, .int .u64 ca, .int .i64 cp, .int .i64 cy, .bool false] 24))
    have B13 := Lib.hid (bAlloc (bTrans B11.out hb) (.cells #[.int .u64 cb, .int .u64 ct, .int .u64 ca, .int .i64 cp, .int .i64 cy, .bool false] 24))
    have A13 := Lib.hid (bAlloc hb (.cells #[.int .u64 cb, .int .u64 ct, .int .u64 ca, .int .i64 cp, .int .i64 cy, .bool false] 24))
    have L13 := Lib.hid (Below.refl (w12.alloc (.cells #[.int .u64 cb, .int .u64 ct, .int .u64 ca, .int .i64 cp, .int .i64 cy, .bool false] 24)).heap.size (w12.alloc (.cells #[.int .u64 cb, .int .u64 ct, .int .u64 ca, .int .i64 cp, .int .i64 cy, .bool false] 24)))
    clear hb hw c0 c1 c2 c3 c4 c5 C11 M11 B11
    obtain ⟨c0, c1, c2, c3, c4, c5⟩ := cells6 C13.out
    obtain ⟨m0, m1, m2, m3, m4, m5⟩ := cells6 M13.out
    obtain ⟨b0, b1, b2, b3, b4, b5⟩ := cells6 B13.out
    obtain ⟨a0, a1, a2, a3, a4, a5⟩ := cells6 A13.out
    obtain ⟨l0, l1, l2, l3, l4, l5⟩ := cells6 L13.out
    have p1 : 0 ≤ cp := rightC_p CE.out
    have p2 : cp ≤ 255 := rightC_q CE.out
    have py : -1 ≤ cy := rightC_y CE.out
    go_wp2_with fail
    go_region_held3 (fun W => W.cell? ⟨w.heap.size, 0, none⟩ = some (.int .u64 cb) ∧ W.cell? ⟨w.heap.size, 1, none⟩ = some (.int .u64 ct) ∧ W.cell? ⟨w.heap.size, 2, none⟩ = some (.int .u64 ca) ∧ W.cell? ⟨w.heap.size, 3, none⟩ = some (.int .i64 cp) ∧ W.cell? ⟨w.heap.size, 4, none⟩ = some (.int .i64 cy) ∧ W.cell? ⟨w.heap.size, 5, none⟩ = some (.bool cg) ∧ W.cell? ⟨w9.heap.size, 0, none⟩ = some (.int .u64 mv.base) ∧ W.cell? ⟨w9.heap.size, 1, none⟩ = some (.int .u64 mv.top) ∧ W.cell? ⟨w9.heap.size, 2, none⟩ = some (.int .u64 mv.at_) ∧ W.cell? ⟨w9.heap.size, 3, none⟩ = some (.int .i64 mv.perms) ∧ W.cell? ⟨w9.heap.size, 4, none⟩ = some (.int .i64 mv.ty) ∧ W.cell? ⟨w9.heap.size, 5, none⟩ = some (.bool mv.tag) ∧ W.cell? ⟨w10.heap.size, 0, none⟩ = some (.int .u64 bv.base) ∧ W.cell? ⟨w10.heap.size, 1, none⟩ = some (.int .u64 bv.top) ∧ W.cell? ⟨w10.heap.size, 2, none⟩ = some (.int .u64 bv.at_) ∧ W.cell? ⟨w10.heap.size, 3, none⟩ = some (.int .i64 bv.perms) ∧ W.cell? ⟨w10.heap.size, 4, none⟩ = some (.int .i64 bv.ty) ∧ W.cell? ⟨w10.heap.size, 5, none⟩ = some (.bool bv.tag) ∧ W.cell? ⟨w11.heap.size, 0, none⟩ = some (.int .u64 av.base) ∧ W.cell? ⟨w11.heap.size, 1, none⟩ = some (.int .u64 av.top) ∧ W.cell? ⟨w11.heap.size, 2, none⟩ = some (.int .u64 av.at_) ∧ W.cell? ⟨w11.heap.size, 3, none⟩ = some (.int .i64 av.perms) ∧ W.cell? ⟨w11.heap.size, 4, none⟩ = some (.int .i64 av.ty) ∧ W.cell? ⟨w11.heap.size, 5, none⟩ = some (.bool av.tag) ∧ W.cell? ⟨w12.heap.size, 0, none⟩ = some (.int .u64 cb) ∧ W.cell? ⟨w12.heap.size, 1, none⟩ = some (.int .u64 ct) ∧ W.cell? ⟨w12.heap.size, 2, none⟩ = some (.int .u64 ca) ∧ W.cell? ⟨w12.heap.size, 3, none⟩ = some (.int .i64 cp) ∧ W.cell? ⟨w12.heap.size, 4, none⟩ = some (.int .i64 cy) ∧ W.cell? ⟨w12.heap.size, 5, none⟩ = some (.bool false))
      (first | exact (six2 (cells6 (bTrans C13.out HB17.out)) (six2 (cells6 (bTrans M13.out HB17.out)) (six2 (cells6 (bTrans B13.out HB17.out)) (six2 (cells6 (bTrans A13.out HB17.out)) (cells6 (bTrans L13.out HB17.out)))))) | exact (six2 (cells6 (bTrans C13.out HB16.out)) (six2 (cells6 (bTrans M13.out HB16.out)) (six2 (cells6 (bTrans B13.out HB16.out)) (six2 (cells6 (bTrans A13.out HB16.out)) (cells6 (bTrans L13.out HB16.out)))))) | exact (six2 (cells6 (bTrans C13.out HB15.out)) (six2 (cells6 (bTrans M13.out HB15.out)) (six2 (cells6 (bTrans B13.out HB15.out)) (six2 (cells6 (bTrans A13.out HB15.out)) (cells6 (bTrans L13.out HB15.out)))))) | exact (six2 (cells6 (bTrans C13.out HB14.out)) (six2 (cells6 (bTrans M13.out HB14.out)) (six2 (cells6 (bTrans B13.out HB14.out)) (six2 (cells6 (bTrans A13.out HB14.out)) (cells6 (bTrans L13.out HB14.out)))))) | go_keep)
      (first
        | (go_at_call 21; (with_reducible refine (rmove_any _ _ _ _ _ _ x _ py).mono ?_); rintro e w14 ⟨rfl, hb⟩; rw [ME.out]; have HB14 := Lib.hid (undrew hb); clear hb)
        | (go_at_call 22; (with_reducible refine (rbound_any _ _ _ _ _ _ x _ h1 h4 h3 py).mono ?_); rintro e w15 ⟨rfl, hb⟩; rw [BE.out]; have HB15 := Lib.hid (bTrans HB14.out hb); clear hb)
        | (go_at_call 23; (with_reducible refine (rand_any _ _ _ _ _ _ p _ p1 p2 py).mono ?_); rintro e w16 ⟨rfl, hb⟩; rw [AE.out]; have HB16 := Lib.hid (bTrans HB15.out hb); clear hb)
        | (go_at_call 24; (with_reducible refine (rclear_any _ _ _ _ _ _ _).mono ?_); rintro e w17 ⟨rfl, hw⟩; have HB17 := Lib.hid (bTrans HB16.out (hw ▸ (bAlloc (bAlloc (Below.refl _ _) _) _))); clear hw))
    go_wp2_with fail
    go_ret
    exact ⟨rfl, bTrans (bAlloc (Below.refl _ _) _) (bTrans C13.out HB17.out)⟩
end Go.Proofs.YtoijhhacgafblaaDoor
