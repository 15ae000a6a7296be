/- The walk of CapSeals. -/
import Derived.Test.YtoijhhacgafblaaDoorCapW
namespace Go.Proofs.YtoijhhacgafblaaDoor
set_option linter.unusedVariables false
set_option linter.unusedSimpArgs false
open Go.ChangeShapes Go.WideShapes Go.ChangeAt Go.RowKit

theorem rightC_p {c : CapV} (h : rightC c = true) : 0 ≤ c.perms := by simp only [rightC, Bool.and_eq_true, decide_eq_true_eq] at h; omega
theorem rightC_q {c : CapV} (h : rightC c = true) : c.perms ≤ 255 := by simp only [rightC, Bool.and_eq_true, decide_eq_true_eq] at h; omega

set_option maxHeartbeats 1600000 in
theorem CapSeals_walk (cb ct ca cp cy : Int) (cg : Bool) (kb kt ka kp ky : Int) (kg : Bool) (w : World) (htab : Tab w.heap.size w) (h1 : 0 ≤ ka) (o1 o2 : Bool) (e1 : rightC (⟨cb, ct, ca, cp, cy, cg⟩ : CapV) = o1) (e2 : rightC (⟨kb, kt, ka, kp, ky, kg⟩ : CapV) = o2) :
    Calls Tryd.prog 4 #[.agg #[.int .u64 cb, .int .u64 ct, .int .u64 ca, .int .i64 cp, .int .i64 cy, .bool cg], .agg #[.int .u64 kb, .int .u64 kt, .int .u64 ka, .int .i64 kp, .int .i64 ky, .bool kg]] w fun e w' => e = .returned (.bool true) ∧ Below w.heap.size w w' := by
  have HT := Lib.hid htab
  clear htab
  go_enter Tryd.func4, Tryd.ntmps4
  go_wp2_with fail
  refine (awake_any _ (tab_on HT.out (bAlloc (bAlloc (Below.refl _ _) (.cells #[.int .u64 cb, .int .u64 ct, .int .u64 ca, .int .i64 cp, .int .i64 cy, .bool cg] 24)) (.cells #[.int .u64 kb, .int .u64 kt, .int .u64 ka, .int .i64 kp, .int .i64 ky, .bool kg] 24)))).mono ?_; rintro e w1 ⟨rfl, hb⟩
  have C1 := Lib.hid (bTrans (bAlloc (Below.refl _ _) (.cells #[.int .u64 kb, .int .u64 kt, .int .u64 ka, .int .i64 kp, .int .i64 ky, .bool kg] 24)) hb)
  have K1 := Lib.hid hb
  clear hb
  obtain ⟨c0, c1, c2, c3, c4, c5⟩ := cells6 C1.out
  obtain ⟨k0, k1, k2, k3, k4, k5⟩ := cells6 K1.out
  rw [size_alloc] at k0 k1 k2 k3 k4 k5
  go_wp2_with fail
  refine (right_any _ _ _ _ _ _ _).mono ?_; rintro e w2 ⟨rfl, hb⟩; rw [e1]
  have C2 := Lib.hid (bTrans C1.out hb)
  have K2 := Lib.hid (bTrans K1.out hb)
  clear hb c0 c1 c2 c3 c4 c5 k0 k1 k2 k3 k4 k5
  obtain ⟨c0, c1, c2, c3, c4, c5⟩ := cells6 C2.out
  obtain ⟨k0, k1, k2, k3, k4, k5⟩ := cells6 K2.out
  rw [size_alloc] at k0 k1 k2 k3 k4 k5
  go_wp2_with fail
  refine (right_any _ _ _ _ _ _ _).mono ?_; rintro e w3 ⟨rfl, hb⟩; rw [e2]
  have C3 := Lib.hid (bTrans C2.out hb)
  have K3 := Lib.hid (bTrans K2.out hb)
  clear hb c0 c1 c2 c3 c4 c5 k0 k1 k2 k3 k4 k5
  obtain ⟨c0, c1, c2, c3, c4, c5⟩ := cells6 C3.out
  obtain ⟨k0, k1, k2, k3, k4, k5⟩ := cells6 K3.out
  rw [size_alloc] at k0 k1 k2 k3 k4 k5
  have CE := Lib.hid e1
  have KE := Lib.hid e2
  clear e1 e2
  cases o1
  · go_wp2_with fail
    go_ret
    exact ⟨rfl, bTrans (bAlloc (Below.refl _ _) _) C3.out⟩
  cases o2
  · go_wp2_with fail
    go_ret
    exact ⟨rfl, bTrans (bAlloc (Below.refl _ _) _) C3.out⟩
  · go_wp2_with fail
    refine (seal_any _ _ _ _ _ _ _ _ _ _ _ _ _ h1).mono ?_; rintro e w4 ⟨rfl, hb⟩
    generalize hs : sealC (⟨cb, ct, ca, cp, cy, cg⟩ : CapV) (⟨kb, kt, ka, kp, ky, kg⟩ : CapV) = sv
    have SE := Lib.hid hs
    clear hs
    have C4 := Lib.hid (bAlloc (bTrans C3.out hb) (.cells #[.int .u64 sv.base, .int .u64 sv.top, .int .u64 sv.at_, .int .i64 sv.perms, .int .i64 sv.ty, .bool sv.tag] 24))
    have K4 := Lib.hid (bAlloc (bTrans K3.out hb) (.cells #[.int .u64 sv.base, .int .u64 sv.top, .int .u64 sv.at_, .int .i64 sv.perms, .int .i64 sv.ty, .bool sv.tag] 24))
    clear hb c0 c1 c2 c3 c4 c5 k0 k1 k2 k3 k4 k5
    obtain ⟨c0, c1, c2, c3, c4, c5⟩ := cells6 C4.out
    obtain ⟨k0, k1, k2, k3, k4, k5⟩ := cells6 K4.out
    rw [size_alloc] at k0 k1 k2 k3 k4 k5
    go_wp2_with fail
    refine (unseal_any _ _ _ _ _ _ _ _ _ _ _ _ _ h1).mono ?_; rintro e w5 ⟨rfl, hb⟩
    generalize hs : unsealC (⟨cb, ct, ca, cp, cy, cg⟩ : CapV) (⟨kb, kt, ka, kp, ky, kg⟩ : CapV) = uv
    have UE := Lib.hid hs
    clear hs
    have C5 := Lib.hid (bAlloc (bTrans C4.out hb) (.cells #[.int .u64 uv.base, .int .u64 uv.top, .int .u64 uv.at_, .int .i64 uv.perms, .int .i64 uv.ty, .bool uv.tag] 24))
    have K5 := Lib.hid (bAlloc (bTrans K4.out hb) (.cells #[.int .u64 uv.base, .int .u64 uv.top, .int .u64 uv.at_, .int .i64 uv.perms, .int .i64 uv.ty, .bool uv.tag] 24))
    have U5 := Lib.hid (Below.refl (w5.alloc (.cells #[.int .u64 uv.base, .int .u64 uv.top, .int .u64 uv.at_, .int .i64 uv.perms, .int .i64 uv.ty, .bool uv.tag] 24)).heap.size (w5.alloc (.cells #[.int .u64 uv.base, .int .u64 uv.top, .int .u64 uv.at_, .int .i64 uv.perms, .int .i64 uv.ty, .bool uv.tag] 24)))
    have S5 := Lib.hid (bAlloc hb (.cells #[.int .u64 uv.base, .int .u64 uv.top, .int .u64 uv.at_, .int .i64 uv.perms, .int .i64 uv.ty, .bool uv.tag] 24))
    clear hb c0 c1 c2 c3 c4 c5 k0 k1 k2 k3 k4 k5
    obtain ⟨c0, c1, c2, c3, c4, c5⟩ := cells6 C5.out
    obtain ⟨k0, k1, k2, k3, k4, k5⟩ := cells6 K5.out
    rw [size_alloc] at k0 k1 k2 k3 k4 k5
    obtain ⟨s0, s1, s2, s3, s4, s5⟩ := cells6 S5.out
    obtain ⟨u0, u1, u2, u3, u4, u5⟩ := cells6 U5.out
    go_wp2_with fail
    have p1 : 0 ≤ kp := rightC_p KE.out
    have p2 : kp ≤ 255 := rightC_q KE.out
    go_region_held3 (fun W => W.cell? ⟨w.heap.size, 0, none⟩ = some (.int .u64 cb) ∧ W.cell? ⟨w.heap.size, 1, none⟩ = some (.int .u64 ct) ∧ W.cell? ⟨w.heap.size, 2, none⟩ = some (.int .u64 ca) ∧ W.cell? ⟨w.heap.size, 3, none⟩ = some (.int .i64 cp) ∧ W.cell? ⟨w.heap.size, 4, none⟩ = some (.int .i64 cy) ∧ W.cell? ⟨w.heap.size, 5, none⟩ = some (.bool cg) ∧ W.cell? ⟨w.heap.size + 1, 0, none⟩ = some (.int .u64 kb) ∧ W.cell? ⟨w.heap.size + 1, 1, none⟩ = some (.int .u64 kt) ∧ W.cell? ⟨w.heap.size + 1, 2, none⟩ = some (.int .u64 ka) ∧ W.cell? ⟨w.heap.size + 1, 3, none⟩ = some (.int .i64 kp) ∧ W.cell? ⟨w.heap.size + 1, 4, none⟩ = some (.int .i64 ky) ∧ W.cell? ⟨w.heap.size + 1, 5, none⟩ = some (.bool kg) ∧ W.cell? ⟨w4.heap.size, 0, none⟩ = some (.int .u64 sv.base) ∧ W.cell? ⟨w4.heap.size, 1, none⟩ = some (.int .u64 sv.top) ∧ W.cell? ⟨w4.heap.size, 2, none⟩ = some (.int .u64 sv.at_) ∧ W.cell? ⟨w4.heap.size, 3, none⟩ = some (.int .i64 sv.perms) ∧ W.cell? ⟨w4.heap.size, 4, none⟩ = some (.int .i64 sv.ty) ∧ W.cell? ⟨w4.heap.size, 5, none⟩ = some (.bool sv.tag) ∧ W.cell? ⟨w5.heap.size, 0, none⟩ = some (.int .u64 uv.base) ∧ W.cell? ⟨w5.heap.size, 1, none⟩ = some (.int .u64 uv.top) ∧ W.cell? ⟨w5.heap.size, 2, none⟩ = some (.int .u64 uv.at_) ∧ W.cell? ⟨w5.heap.size, 3, none⟩ = some (.int .i64 uv.perms) ∧ W.cell? ⟨w5.heap.size, 4, none⟩ = some (.int .i64 uv.ty) ∧ W.cell? ⟨w5.heap.size, 5, none⟩ = some (.bool uv.tag))
      (first | exact six2 (cells6 (bTrans C5.out HB7.out)) (six2 (by have kk := cells6 (bTrans K5.out HB7.out); rw [size_alloc] at kk; exact kk) (six2 (cells6 (bTrans S5.out HB7.out)) (cells6 (bTrans U5.out HB7.out)))) | exact six2 (cells6 (bTrans C5.out HB6.out)) (six2 (by have kk := cells6 (bTrans K5.out HB6.out); rw [size_alloc] at kk; exact kk) (six2 (cells6 (bTrans S5.out HB6.out)) (cells6 (bTrans U5.out HB6.out)))) | go_keep)
      (first
        | (go_at_call 27; (with_reducible refine (rseal0_any _ _ _ _ _ _ _ _ _ _ _ _ _ h1 p1 p2).mono ?_); rintro e w6 ⟨rfl, hb⟩; rw [← seal_is _ _ CE.out KE.out, SE.out]; have HB6 := Lib.hid (undrew hb); clear hb)
        | (go_at_call 28; (with_reducible refine (runseal0_any _ _ _ _ _ _ _ _ _ _ _ _ _ h1 p1 p2).mono ?_); rintro e w7 ⟨rfl, hb⟩; rw [← unseal_is _ _ CE.out KE.out h1, UE.out]; have HB7 := Lib.hid (bTrans HB6.out hb); clear hb))
    go_wp2_with fail
    go_ret
    exact ⟨rfl, bTrans (bAlloc (Below.refl _ _) _) (bTrans C5.out HB7.out)⟩
end Go.Proofs.YtoijhhacgafblaaDoor
