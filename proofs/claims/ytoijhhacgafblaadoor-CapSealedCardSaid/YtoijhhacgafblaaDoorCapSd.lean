/- The walk of CapSealed. -/
import Derived.Test.YtoijhhacgafblaaDoorCapLs
namespace Go.Proofs.YtoijhhacgafblaaDoor
set_option linter.unusedVariables false
set_option linter.unusedSimpArgs false
open Go.ChangeShapes Go.WideShapes Go.ChangeAt Go.RowKit

theorem cells6q {w W' : World} {Q : Nat} {v0 v1 v2 v3 v4 v5 : Value} {t : TypeId} (hQ : w.heap.size = Q) (h : Below (w.alloc (.cells #[v0, v1, v2, v3, v4, v5] t)).heap.size (w.alloc (.cells #[v0, v1, v2, v3, v4, v5] t)) W') :
    W'.cell? ⟨Q, 0, none⟩ = some v0 ∧ W'.cell? ⟨Q, 1, none⟩ = some v1 ∧ W'.cell? ⟨Q, 2, none⟩ = some v2 ∧ W'.cell? ⟨Q, 3, none⟩ = some v3 ∧ W'.cell? ⟨Q, 4, none⟩ = some v4 ∧ W'.cell? ⟨Q, 5, none⟩ = some v5 := hQ ▸ cells6 h

set_option maxRecDepth 8000 in
set_option maxHeartbeats 1600000 in
theorem CapSealed_walk (cb ct ca cp cy : Int) (cg : Bool) (kb kt ka kp ky : Int) (kg : Bool) (x p : Int) (w : World) (htab : Tab w.heap.size w) (h1 : 0 ≤ ca) (h2 : ca < 18446744073709551616) (h4 : ct < 18446744073709551616)
    (k1 : 0 ≤ ka) (k2 : ka < 18446744073709551616) (k4 : kt < 18446744073709551616) (h3 : 0 ≤ x) (h5 : x < 18446744073709551616) (o1 o2 : Bool) (e1 : rightC (⟨cb, ct, ca, cp, cy, cg⟩ : CapV) = o1) (e2 : rightC (⟨kb, kt, ka, kp, ky, kg⟩ : CapV) = o2) :
    Calls Tryd.prog 7 #[.agg #[.int .u64 cb, .int .u64 ct, .int .u64 ca, .int .i64 cp, .int .i64 cy, .bool cg], .agg #[.int .u64 kb, .int .u64 kt, .int .u64 ka, .int .i64 kp, .int .i64 ky, .bool kg], .int .u64 x, .int .i64 p] w fun e w' => e = .returned (.bool true) ∧ Below w.heap.size w w' := by
  have HT := Lib.hid htab
  clear htab
  go_enter Tryd.func7, Tryd.ntmps7
  go_wp2_with fail
  refine (awake_any _ (tab_on HT.out (bAlloc (bAlloc (Below.refl _ _) (.cells #[.int .u64 cb, .int .u64 ct, .int .u64 ca, .int .i64 cp, .int .i64 cy, .bool cg] 24)) (.cells #[.int .u64 kb, .int .u64 kt, .int .u64 ka, .int .i64 kp, .int .i64 ky, .bool kg] 24)))).mono ?_; rintro e w1 ⟨rfl, hb⟩
  have C1 := Lib.hid (bTrans (bAlloc (Below.refl _ _) (.cells #[.int .u64 kb, .int .u64 kt, .int .u64 ka, .int .i64 kp, .int .i64 ky, .bool kg] 24)) hb)
  have K1 := Lib.hid hb
  clear hb
  obtain ⟨c0, c1, c2, c3, c4, c5⟩ := cells6 C1.out
  obtain ⟨k0, k1', k2', k3, k4', k5⟩ := cells6 K1.out
  rw [size_alloc] at k0 k1' k2' k3 k4' k5
  go_wp2_with fail
  refine (right_any _ _ _ _ _ _ _).mono ?_; rintro e w2 ⟨rfl, hb⟩; rw [e1]
  have C2 := Lib.hid (bTrans C1.out hb)
  have K2 := Lib.hid (bTrans K1.out hb)
  clear hb c0 c1 c2 c3 c4 c5 k0 k1' k2' k3 k4' k5
  obtain ⟨c0, c1, c2, c3, c4, c5⟩ := cells6 C2.out
  obtain ⟨k0, k1', k2', k3, k4', k5⟩ := cells6 K2.out
  rw [size_alloc] at k0 k1' k2' k3 k4' k5
  go_wp2_with fail
  refine (right_any _ _ _ _ _ _ _).mono ?_; rintro e w3 ⟨rfl, hb⟩; rw [e2]
  have C3 := Lib.hid (bTrans C2.out hb)
  have K3 := Lib.hid (bTrans K2.out hb)
  clear hb c0 c1 c2 c3 c4 c5 k0 k1' k2' k3 k4' k5 C1 K1 C2 K2
  obtain ⟨c0, c1, c2, c3, c4, c5⟩ := cells6 C3.out
  obtain ⟨k0, k1', k2', k3, k4', k5⟩ := cells6 K3.out
  rw [size_alloc] at k0 k1' k2' k3 k4' k5
  have CE := Lib.hid e1
  have KE := Lib.hid e2
  clear e1 e2
  cases o1
  · go_wp2_with fail
    go_ret
    exact ⟨rfl, bTrans (bAlloc (Below.refl _ _) _) C3.out⟩
  cases o2
  · go_wp2_with fail
    go_ret
    exact ⟨rfl, bTrans (bAlloc (Below.refl _ _) _) C3.out⟩
  by_cases q1 : 0 ≤ p
  · have d1 : decide (p < 0) = false := decide_eq_false (by omega)
    by_cases q2 : p ≤ 255
    · have d2 : decide (255 < p) = false := decide_eq_false (by omega)
      go_wp2_with fail
      refine (seal_any _ _ _ _ _ _ _ _ _ _ _ _ _ k1).mono ?_; rintro e w4 ⟨rfl, hb⟩
      rcases seal_cases (⟨cb, ct, ca, cp, cy, cg⟩ : CapV) (⟨kb, kt, ka, kp, ky, kg⟩ : CapV) with hs | ⟨hl, hk, hk2, hs⟩
      · rw [hs]
        have C4 := Lib.hid (bAlloc (bTrans C3.out hb) (.cells #[.int .u64 cb, .int .u64 ct, .int .u64 ca, .int .i64 cp, .int .i64 cy, .bool false] 24))
        clear hb
        go_wp2_with fail
        go_ret
        exact ⟨rfl, bTrans (bAlloc (Below.refl _ _) _) C4.out⟩
      · rw [hs]
        have hgt : cg = true := live_tag hl
        have hlo : cy = -1 := by have h := hl; have h9 := rightC_y CE.out; simp only [CapV.live, CapV.sealed, Bool.and_eq_true, Bool.not_eq_true', decide_eq_false_iff_not] at h; simp only at h9; omega
        subst hgt; subst hlo
        have p1 : 0 ≤ kp := rightC_p KE.out
        have p2 : kp ≤ 255 := rightC_q KE.out
        have E1 : checkC (⟨cb, ct, ca, cp, ka, true⟩ : CapV) x p = 21 := by simp [checkC, CapV.sealed, k1]
        have E2 : moveC (⟨cb, ct, ca, cp, ka, true⟩ : CapV) x = ⟨cb, ct, x, cp, ka, false⟩ := by simp [moveC, CapV.live, CapV.sealed, k1]
        have E3 : boundC (⟨cb, ct, ca, cp, ka, true⟩ : CapV) x = ⟨cb, ct, ca, cp, ka, false⟩ := by simp [boundC, CapV.live, CapV.sealed, k1, CapV.clear]
        have E4 : andC (⟨cb, ct, ca, cp, ka, true⟩ : CapV) p = ⟨cb, ct, ca, bits .and .i64 cp p, ka, false⟩ := by simp [andC, CapV.live, CapV.sealed, k1]
        have E5 : sealC (⟨cb, ct, ca, cp, ka, true⟩ : CapV) (⟨kb, kt, ka, kp, ky, kg⟩ : CapV) = ⟨cb, ct, ca, cp, ka, false⟩ := by simp [sealC, CapV.live, CapV.sealed, k1, CapV.clear]
        have hk64 := key_other hk p1 p2
        simp only at hk64 hk2
        have hwr : (ka == IntKind.u64.wrap ka) = true := by rw [IntKind.wrap_u64, beq_iff_eq]; omega
        obtain ⟨u, hu⟩ : ∃ u, (bits .and .i64 kp 64 == 0) = u := ⟨_, rfl⟩
        rw [hu] at hk64
        obtain ⟨yv, bv, E6, hy⟩ : ∃ (yv : Int) (bv : Bool), unsealC (⟨cb, ct, ca, cp, ka, true⟩ : CapV) (⟨kb, kt, ka, kp, ky, kg⟩ : CapV) = ⟨cb, ct, ca, cp, yv, bv⟩ ∧ ((u = true ∧ yv = ka ∧ bv = false) ∨ (u = false ∧ yv = -1 ∧ bv = true)) := by
          cases u
          · exact ⟨-1, true, by simp [unsealC, CapV.sealed, k1, CapV.clear, hk64, hwr], .inr ⟨rfl, rfl, rfl⟩⟩
          · exact ⟨ka, false, by simp [unsealC, CapV.sealed, k1, CapV.clear, hk64, hwr], .inl ⟨rfl, rfl, rfl⟩⟩
        have HY := Lib.hid hy
        clear hy
        obtain ⟨ov, hov⟩ : ∃ ov, unsealC (⟨cb, ct, ca, cp, ka, true⟩ : CapV) ⟨(moveC (⟨kb, kt, ka, kp, ky, kg⟩ : CapV) x).base, (moveC (⟨kb, kt, ka, kp, ky, kg⟩ : CapV) x).top, (moveC (⟨kb, kt, ka, kp, ky, kg⟩ : CapV) x).at_, (moveC (⟨kb, kt, ka, kp, ky, kg⟩ : CapV) x).perms, (moveC (⟨kb, kt, ka, kp, ky, kg⟩ : CapV) x).ty, (moveC (⟨kb, kt, ka, kp, ky, kg⟩ : CapV) x).tag⟩ = ov := ⟨_, rfl⟩
        have h7 : x = ka ∨ ov.tag = false := by rw [← hov]; by_cases hx : x = ka; exact .inl hx; exact .inr (congrArg CapV.tag (unseal_other (⟨cb, ct, ca, cp, ka, true⟩ : CapV) (⟨kb, kt, ka, kp, ky, kg⟩ : CapV) x hx rfl k1 hk2))
        have qx : 0 ≤ (moveC (⟨kb, kt, ka, kp, ky, kg⟩ : CapV) x).at_ := h3
        have C4 := Lib.hid (bAlloc (bTrans C3.out hb) (.cells #[.int .u64 (cb), .int .u64 (ct), .int .u64 (ca), .int .i64 (cp), .int .i64 (ka), .bool true] 24))
        have K4 := Lib.hid (bAlloc (bTrans K3.out hb) (.cells #[.int .u64 (cb), .int .u64 (ct), .int .u64 (ca), .int .i64 (cp), .int .i64 (ka), .bool true] 24))
        have S4 := Lib.hid (Below.refl (w4.alloc (.cells #[.int .u64 (cb), .int .u64 (ct), .int .u64 (ca), .int .i64 (cp), .int .i64 (ka), .bool true] 24)).heap.size (w4.alloc (.cells #[.int .u64 (cb), .int .u64 (ct), .int .u64 (ca), .int .i64 (cp), .int .i64 (ka), .bool true] 24)))
        clear C3
        clear K3
        clear hb
        clear c0 c1 c2 c3 c4 c5
        clear k0 k1' k2' k3 k4' k5
        obtain ⟨s0, s1, s2, s3, s4, s5⟩ := cells6 S4.out
        obtain ⟨k0, k1', k2', k3, k4', k5⟩ := cells6 K4.out
        rw [size_alloc] at k0 k1' k2' k3 k4' k5
        go_wp2_with fail
        refine (check_any _ _ _ _ _ _ x p _ h1 h2 h3).mono ?_; rintro e w5 ⟨rfl, hb⟩; rw [E1]
        have C5 := Lib.hid (bTrans C4.out hb)
        have K5 := Lib.hid (bTrans K4.out hb)
        have S5 := Lib.hid (bTrans S4.out hb)
        clear C4
        clear K4
        clear S4
        clear hb
        clear s0 s1 s2 s3 s4 s5
        clear k0 k1' k2' k3 k4' k5
        obtain ⟨s0, s1, s2, s3, s4, s5⟩ := cells6 S5.out
        obtain ⟨k0, k1', k2', k3, k4', k5⟩ := cells6 K5.out
        rw [size_alloc] at k0 k1' k2' k3 k4' k5
        go_wp2_with fail
        refine (move_any _ _ _ _ _ _ x _).mono ?_; rintro e w6 ⟨rfl, hb⟩; rw [E2]
        have C6 := Lib.hid (bAlloc (bTrans C5.out hb) (.cells #[.int .u64 (cb), .int .u64 (ct), .int .u64 (x), .int .i64 (cp), .int .i64 (ka), .bool false] 24))
        have K6 := Lib.hid (bAlloc (bTrans K5.out hb) (.cells #[.int .u64 (cb), .int .u64 (ct), .int .u64 (x), .int .i64 (cp), .int .i64 (ka), .bool false] 24))
        have S6 := Lib.hid (bAlloc (bTrans S5.out hb) (.cells #[.int .u64 (cb), .int .u64 (ct), .int .u64 (x), .int .i64 (cp), .int .i64 (ka), .bool false] 24))
        have M6 := Lib.hid (Below.refl (w6.alloc (.cells #[.int .u64 (cb), .int .u64 (ct), .int .u64 (x), .int .i64 (cp), .int .i64 (ka), .bool false] 24)).heap.size (w6.alloc (.cells #[.int .u64 (cb), .int .u64 (ct), .int .u64 (x), .int .i64 (cp), .int .i64 (ka), .bool false] 24)))
        clear C5
        clear K5
        clear S5
        clear hb
        clear s0 s1 s2 s3 s4 s5
        clear k0 k1' k2' k3 k4' k5
        obtain ⟨s0, s1, s2, s3, s4, s5⟩ := cells6 S6.out
        obtain ⟨k0, k1', k2', k3, k4', k5⟩ := cells6 K6.out
        rw [size_alloc] at k0 k1' k2' k3 k4' k5
        go_wp2_with fail
        refine (bound_any _ _ _ _ _ _ x _ h1 h2 h3 h4).mono ?_; rintro e w7 ⟨rfl, hb⟩; rw [E3]
        have C7 := Lib.hid (bAlloc (bTrans C6.out hb) (.cells #[.int .u64 (cb), .int .u64 (ct), .int .u64 (ca), .int .i64 (cp), .int .i64 (ka), .bool false] 24))
        have K7 := Lib.hid (bAlloc (bTrans K6.out hb) (.cells #[.int .u64 (cb), .int .u64 (ct), .int .u64 (ca), .int .i64 (cp), .int .i64 (ka), .bool false] 24))
        have S7 := Lib.hid (bAlloc (bTrans S6.out hb) (.cells #[.int .u64 (cb), .int .u64 (ct), .int .u64 (ca), .int .i64 (cp), .int .i64 (ka), .bool false] 24))
        have M7 := Lib.hid (bAlloc (bTrans M6.out hb) (.cells #[.int .u64 (cb), .int .u64 (ct), .int .u64 (ca), .int .i64 (cp), .int .i64 (ka), .bool false] 24))
        have B7 := Lib.hid (Below.refl (w7.alloc (.cells #[.int .u64 (cb), .int .u64 (ct), .int .u64 (ca), .int .i64 (cp), .int .i64 (ka), .bool false] 24)).heap.size (w7.alloc (.cells #[.int .u64 (cb), .int .u64 (ct), .int .u64 (ca), .int .i64 (cp), .int .i64 (ka), .bool false] 24)))
        clear C6
        clear K6
        clear S6
        clear M6
        clear hb
        clear s0 s1 s2 s3 s4 s5
        clear k0 k1' k2' k3 k4' k5
        obtain ⟨s0, s1, s2, s3, s4, s5⟩ := cells6 S7.out
        obtain ⟨k0, k1', k2', k3, k4', k5⟩ := cells6 K7.out
        rw [size_alloc] at k0 k1' k2' k3 k4' k5
        go_wp2_with fail
        refine (and_any _ _ _ _ _ _ p _).mono ?_; rintro e w8 ⟨rfl, hb⟩; rw [E4]
        have C8 := Lib.hid (bAlloc (bTrans C7.out hb) (.cells #[.int .u64 (cb), .int .u64 (ct), .int .u64 (ca), .int .i64 (bits .and .i64 cp p), .int .i64 (ka), .bool false] 24))
        have K8 := Lib.hid (bAlloc (bTrans K7.out hb) (.cells #[.int .u64 (cb), .int .u64 (ct), .int .u64 (ca), .int .i64 (bits .and .i64 cp p), .int .i64 (ka), .bool false] 24))
        have S8 := Lib.hid (bAlloc (bTrans S7.out hb) (.cells #[.int .u64 (cb), .int .u64 (ct), .int .u64 (ca), .int .i64 (bits .and .i64 cp p), .int .i64 (ka), .bool false] 24))
        have M8 := Lib.hid (bAlloc (bTrans M7.out hb) (.cells #[.int .u64 (cb), .int .u64 (ct), .int .u64 (ca), .int .i64 (bits .and .i64 cp p), .int .i64 (ka), .bool false] 24))
        have B8 := Lib.hid (bAlloc (bTrans B7.out hb) (.cells #[.int .u64 (cb), .int .u64 (ct), .int .u64 (ca), .int .i64 (bits .and .i64 cp p), .int .i64 (ka), .bool false] 24))
        have L8 := Lib.hid (Below.refl (w8.alloc (.cells #[.int .u64 (cb), .int .u64 (ct), .int .u64 (ca), .int .i64 (bits .and .i64 cp p), .int .i64 (ka), .bool false] 24)).heap.size (w8.alloc (.cells #[.int .u64 (cb), .int .u64 (ct), .int .u64 (ca), .int .i64 (bits .and .i64 cp p), .int .i64 (ka), .bool false] 24)))
        clear C7
        clear K7
        clear S7
        clear M7
        clear B7
        clear hb
        clear s0 s1 s2 s3 s4 s5
        clear k0 k1' k2' k3 k4' k5
        obtain ⟨s0, s1, s2, s3, s4, s5⟩ := cells6 S8.out
        obtain ⟨k0, k1', k2', k3, k4', k5⟩ := cells6 K8.out
        rw [size_alloc] at k0 k1' k2' k3 k4' k5
        go_wp2_with fail
        refine (seal_any _ _ _ _ _ _ _ _ _ _ _ _ _ k1).mono ?_; rintro e w9 ⟨rfl, hb⟩; rw [E5]
        have C9 := Lib.hid (bAlloc (bTrans C8.out hb) (.cells #[.int .u64 (cb), .int .u64 (ct), .int .u64 (ca), .int .i64 (cp), .int .i64 (ka), .bool false] 24))
        have K9 := Lib.hid (bAlloc (bTrans K8.out hb) (.cells #[.int .u64 (cb), .int .u64 (ct), .int .u64 (ca), .int .i64 (cp), .int .i64 (ka), .bool false] 24))
        have S9 := Lib.hid (bAlloc (bTrans S8.out hb) (.cells #[.int .u64 (cb), .int .u64 (ct), .int .u64 (ca), .int .i64 (cp), .int .i64 (ka), .bool false] 24))
        have M9 := Lib.hid (bAlloc (bTrans M8.out hb) (.cells #[.int .u64 (cb), .int .u64 (ct), .int .u64 (ca), .int .i64 (cp), .int .i64 (ka), .bool false] 24))
        have B9 := Lib.hid (bAlloc (bTrans B8.out hb) (.cells #[.int .u64 (cb), .int .u64 (ct), .int .u64 (ca), .int .i64 (cp), .int .i64 (ka), .bool false] 24))
        have L9 := Lib.hid (bAlloc (bTrans L8.out hb) (.cells #[.int .u64 (cb), .int .u64 (ct), .int .u64 (ca), .int .i64 (cp), .int .i64 (ka), .bool false] 24))
        have A9 := Lib.hid (Below.refl (w9.alloc (.cells #[.int .u64 (cb), .int .u64 (ct), .int .u64 (ca), .int .i64 (cp), .int .i64 (ka), .bool false] 24)).heap.size (w9.alloc (.cells #[.int .u64 (cb), .int .u64 (ct), .int .u64 (ca), .int .i64 (cp), .int .i64 (ka), .bool false] 24)))
        clear C8
        clear K8
        clear S8
        clear M8
        clear B8
        clear L8
        clear hb
        clear s0 s1 s2 s3 s4 s5
        clear k0 k1' k2' k3 k4' k5
        obtain ⟨s0, s1, s2, s3, s4, s5⟩ := cells6 S9.out
        obtain ⟨k0, k1', k2', k3, k4', k5⟩ := cells6 K9.out
        rw [size_alloc] at k0 k1' k2' k3 k4' k5
        go_wp2_with fail
        refine (unseal_any _ _ _ _ _ _ _ _ _ _ _ _ _ k1).mono ?_; rintro e w10 ⟨rfl, hb⟩; rw [E6]
        have C10 := Lib.hid (bAlloc (bTrans C9.out hb) (.cells #[.int .u64 (cb), .int .u64 (ct), .int .u64 (ca), .int .i64 (cp), .int .i64 (yv), .bool bv] 24))
        have K10 := Lib.hid (bAlloc (bTrans K9.out hb) (.cells #[.int .u64 (cb), .int .u64 (ct), .int .u64 (ca), .int .i64 (cp), .int .i64 (yv), .bool bv] 24))
        have S10 := Lib.hid (bAlloc (bTrans S9.out hb) (.cells #[.int .u64 (cb), .int .u64 (ct), .int .u64 (ca), .int .i64 (cp), .int .i64 (yv), .bool bv] 24))
        have M10 := Lib.hid (bAlloc (bTrans M9.out hb) (.cells #[.int .u64 (cb), .int .u64 (ct), .int .u64 (ca), .int .i64 (cp), .int .i64 (yv), .bool bv] 24))
        have B10 := Lib.hid (bAlloc (bTrans B9.out hb) (.cells #[.int .u64 (cb), .int .u64 (ct), .int .u64 (ca), .int .i64 (cp), .int .i64 (yv), .bool bv] 24))
        have L10 := Lib.hid (bAlloc (bTrans L9.out hb) (.cells #[.int .u64 (cb), .int .u64 (ct), .int .u64 (ca), .int .i64 (cp), .int .i64 (yv), .bool bv] 24))
        have A10 := Lib.hid (bAlloc (bTrans A9.out hb) (.cells #[.int .u64 (cb), .int .u64 (ct), .int .u64 (ca), .int .i64 (cp), .int .i64 (yv), .bool bv] 24))
        have D10 := Lib.hid (Below.refl (w10.alloc (.cells #[.int .u64 (cb), .int .u64 (ct), .int .u64 (ca), .int .i64 (cp), .int .i64 (yv), .bool bv] 24)).heap.size (w10.alloc (.cells #[.int .u64 (cb), .int .u64 (ct), .int .u64 (ca), .int .i64 (cp), .int .i64 (yv), .bool bv] 24)))
        clear C9
        clear K9
        clear S9
        clear M9
        clear B9
        clear L9
        clear A9
        clear hb
        clear s0 s1 s2 s3 s4 s5
        clear k0 k1' k2' k3 k4' k5
        obtain ⟨s0, s1, s2, s3, s4, s5⟩ := cells6 S10.out
        obtain ⟨k0, k1', k2', k3, k4', k5⟩ := cells6 K10.out
        rw [size_alloc] at k0 k1' k2' k3 k4' k5
        go_wp2_with fail
        obtain ⟨d0, d1, d2, d3, d4, d5⟩ := cells6 D10.out
        have DE := Lib.hid (And.intro d0 (And.intro d1 (And.intro d2 (And.intro d3 (And.intro d4 d5)))))
        have hDs : w10.heap.size < (w10.alloc (.cells #[.int .u64 (cb), .int .u64 (ct), .int .u64 (ca), .int .i64 (cp), .int .i64 (yv), .bool bv] 24)).heap.size := by rw [size_alloc]; omega
        clear D10 d0 d1 d2 d3 d4 d5
        have EX := Lib.hid (And.intro E1 (And.intro hs hl))
        have HOV := Lib.hid hov
        have HU := Lib.hid hu
        have H7 := Lib.hid h7
        clear E1 E2 E3 E4 E5 E6 hs hl hk64 hwr hk hov hu h7
        generalize w10.alloc (.cells #[.int .u64 (cb), .int .u64 (ct), .int .u64 (ca), .int .i64 (cp), .int .i64 (yv), .bool bv] 24) = wb at *
        go_upto_region 19 with fail
        go_cut [19] (fun s19 wx => ∃ P : Nat, s19 = .pointer (some ⟨P, 0, none⟩) ∧ Hid (Below wb.heap.size wb wx) ∧ P < wx.heap.size ∧ wx.cell? ⟨P, 0, none⟩ = some (.int .u64 (ov.base)) ∧ wx.cell? ⟨P, 1, none⟩ = some (.int .u64 (ov.top)) ∧ wx.cell? ⟨P, 2, none⟩ = some (.int .u64 (ov.at_)) ∧ wx.cell? ⟨P, 3, none⟩ = some (.int .i64 (ov.perms)) ∧ wx.cell? ⟨P, 4, none⟩ = some (.int .i64 (ov.ty)) ∧ wx.cell? ⟨P, 5, none⟩ = some (.bool (ov.tag)))
        case first =>
          have s7 : w4.heap.size < wb.heap.size := by have := S10.out.size; rw [size_alloc] at this; omega
          have s8 : w.heap.size + 1 < wb.heap.size := by have := K10.out.size; rw [size_alloc, size_alloc] at this; omega
          go_region_held3 (fun W => W.cell? ⟨w4.heap.size, 0, none⟩ = some (.int .u64 (cb)) ∧ W.cell? ⟨w4.heap.size, 1, none⟩ = some (.int .u64 (ct)) ∧ W.cell? ⟨w4.heap.size, 2, none⟩ = some (.int .u64 (ca)) ∧ W.cell? ⟨w4.heap.size, 3, none⟩ = some (.int .i64 (cp)) ∧ W.cell? ⟨w4.heap.size, 4, none⟩ = some (.int .i64 (ka)) ∧ W.cell? ⟨w4.heap.size, 5, none⟩ = some (.bool true) ∧ W.cell? ⟨w.heap.size + 1, 0, none⟩ = some (.int .u64 (kb)) ∧ W.cell? ⟨w.heap.size + 1, 1, none⟩ = some (.int .u64 (kt)) ∧ W.cell? ⟨w.heap.size + 1, 2, none⟩ = some (.int .u64 (ka)) ∧ W.cell? ⟨w.heap.size + 1, 3, none⟩ = some (.int .i64 (kp)) ∧ W.cell? ⟨w.heap.size + 1, 4, none⟩ = some (.int .i64 (ky)) ∧ W.cell? ⟨w.heap.size + 1, 5, none⟩ = some (.bool kg))
            (exact six2 (cells6 (by repeat' (first | (with_reducible refine Below.setCell ?_ ?_ _) | (with_reducible refine bAlloc ?_ _) | (with_reducible exact bTrans S10.out HB12.out) | (with_reducible exact bTrans S10.out HB11.out) | (with_reducible refine Below.drew ?_) | (with_reducible exact S10.out) | (rw [size_alloc]; simp only []; omega) | (rw [size_alloc, size_alloc]; simp only []; omega)))) (cells6q (w := w.alloc (.cells #[.int .u64 (cb), .int .u64 (ct), .int .u64 (ca), .int .i64 (cp), .int .i64 (-1), .bool true] 24)) (v0 := .int .u64 kb) (v1 := .int .u64 kt) (v2 := .int .u64 ka) (v3 := .int .i64 kp) (v4 := .int .i64 ky) (v5 := .bool kg) (t := 24) (size_alloc _ _) (by repeat' (first | (with_reducible refine Below.setCell ?_ ?_ _) | (with_reducible refine bAlloc ?_ _) | (with_reducible exact bTrans K10.out HB12.out) | (with_reducible exact bTrans K10.out HB11.out) | (with_reducible refine Below.drew ?_) | (with_reducible exact K10.out) | (rw [size_alloc]; simp only []; omega) | (rw [size_alloc, size_alloc]; simp only []; omega)))))
            (first
              | (go_at_call 17; (with_reducible refine (move_any _ _ _ _ _ _ x _).mono ?_); rintro e w11 ⟨rfl, hb⟩; have HB11 := Lib.hid (bTrans (w := wb) (by repeat' (first | exact Below.refl _ _ | apply Below.drew | apply bAlloc)) hb); have s11 := HB11.out.size; (first | (have HZ := Lib.hid (undrew hb)) | (have HZ := Lib.hid hb)); (first | (have zf := cellsF HZ.out; have zz := cells6 HZ.out; obtain ⟨z0, z1, z2, z3, z4, z5⟩ := zz) | skip); clear hb)
              | (go_at_call 26; (with_reducible refine (unseal_any _ _ _ _ _ _ _ _ _ _ _ _ _ qx).mono ?_); rintro e w12 ⟨rfl, hb⟩; rw [HOV.out]; have HB12 := Lib.hid (bTrans (w := wb) (by repeat' (first | exact HB11.out | apply Below.drew | apply bAlloc)) hb); have s12 := HB12.out.size; (first | (have yz := hb.size; rw [size_alloc] at yz; have yf := cellsF hb; have yy := cells6 hb; obtain ⟨y0, y1, y2, y3, y4, y5⟩ := yy) | (have yz := (bTrans HZ.out hb).size; rw [size_alloc] at yz; have yf := cellsF (bTrans HZ.out hb); have yy := cells6 (bTrans HZ.out hb); obtain ⟨y0, y1, y2, y3, y4, y5⟩ := yy) | skip); clear hb))
          all_goals (go_wp2_with fail)
          all_goals go_meet
          all_goals first
            | exact ⟨w12.heap.size, by with_reducible rfl, by with_reducible exact Lib.hid (bAlloc HB12.out _), by rw [size_alloc]; omega, by simp [World.cell?_alloc_new], by simp [World.cell?_alloc_new], by simp [World.cell?_alloc_new], by simp [World.cell?_alloc_new], by simp [World.cell?_alloc_new], by simp [World.cell?_alloc_new]⟩
            | exact ⟨_, by with_reducible rfl, Lib.hid (by repeat' (first | (with_reducible refine Below.setCell ?_ ?_ _) | (with_reducible exact HB12.out) | (simp only []; omega))), by simp only [World.size_setCell']; omega, set6 ⟨y0, y1, y2, y3, y4, y5⟩⟩
        case rest =>
          obtain ⟨P, rfl, HX, hP, o0, o1, o2, o3, o4, o5⟩ := hcut
          have C12 := Lib.hid (bTrans C10.out HX.out)
          have K12 := Lib.hid (bTrans K10.out HX.out)
          have M12 := Lib.hid (bTrans M10.out HX.out)
          have B12 := Lib.hid (bTrans B10.out HX.out)
          have L12 := Lib.hid (bTrans L10.out HX.out)
          have A12 := Lib.hid (bTrans A10.out HX.out)
          have hD := keep6 HX.out hDs DE.out
          obtain ⟨d0, d1, d2, d3, d4, d5⟩ := hD
          obtain ⟨c0, c1, c2, c3, c4, c5⟩ := cells6 C12.out
          clear k0 k1' k2' k3 k4' k5
          obtain ⟨k0, k1', k2', k3, k4', k5⟩ := cells6 K12.out
          rw [size_alloc] at k0 k1' k2' k3 k4' k5
          obtain ⟨m0, m1, m2, m3, m4, m5⟩ := cells6 M12.out
          obtain ⟨b0, b1, b2, b3, b4, b5⟩ := cells6 B12.out
          obtain ⟨l0, l1, l2, l3, l4, l5⟩ := cells6 L12.out
          obtain ⟨a0, a1, a2, a3, a4, a5⟩ := cells6 A12.out
          clear m0 m1 m2 m3 m4
          clear b0 b1 b2 b3 b4
          clear l0 l1 l2 l3 l4
          clear a0 a1 a2 a3 a4
          clear o0 o1 o2 o3 o4
          clear k0 k1' k4' k5
          have FIN := Lib.hid (bTrans (bAlloc (Below.refl _ _) _) C12.out)
          clear C12 K12 M12 B12 L12 A12 S10 C10 K10 M10 B10 L10 A10 HX DE
          have hne : (ka == -1) = false := beq_false_of_ne (by omega)
          have hne2 : decide (ka = -1) = false := decide_eq_false (by omega)
          have hxx : (x == x) = true := beq_self_eq_true _
          have hu := HU.out
          rcases H7.out with rfl | ho
          · have hzz := hxx
            rcases HY.out with ⟨rfl, rfl, rfl⟩ | ⟨rfl, rfl, rfl⟩
            · have hv : bits .and .i64 kp 64 = 0 := beq_iff_eq.1 hu
              have hw : (bits .and .i64 kp 64 != 0) = false := by rw [bne, hu]; rfl
              go_wp2_with fail
              all_goals go_ret
              all_goals exact ⟨rfl, FIN.out⟩
            · have hv : ¬ bits .and .i64 kp 64 = 0 := fun h => by rw [h] at hu; cases hu
              have hw : (bits .and .i64 kp 64 != 0) = true := by rw [bne, hu]; rfl
              go_wp2_with fail
              all_goals go_ret
              all_goals exact ⟨rfl, FIN.out⟩
          · rw [ho] at o5
            rcases HY.out with ⟨rfl, rfl, rfl⟩ | ⟨rfl, rfl, rfl⟩
            · have hv : bits .and .i64 kp 64 = 0 := beq_iff_eq.1 hu
              have hw : (bits .and .i64 kp 64 != 0) = false := by rw [bne, hu]; rfl
              go_wp2_with fail
              all_goals go_ret
              all_goals exact ⟨rfl, FIN.out⟩
            · have hv : ¬ bits .and .i64 kp 64 = 0 := fun h => by rw [h] at hu; cases hu
              have hw : (bits .and .i64 kp 64 != 0) = true := by rw [bne, hu]; rfl
              go_wp2_with fail
              all_goals go_ret
              all_goals exact ⟨rfl, FIN.out⟩
    · have d2 : decide (255 < p) = true := decide_eq_true (by omega)
      go_wp2_with fail
      go_ret
      exact ⟨rfl, bTrans (bAlloc (Below.refl _ _) _) C3.out⟩
  · have d1 : decide (p < 0) = true := decide_eq_true (by omega)
    go_wp2_with fail
    go_ret
    exact ⟨rfl, bTrans (bAlloc (Below.refl _ _) _) C3.out⟩
end Go.Proofs.YtoijhhacgafblaaDoor
