/- The walk of CapTexts. -/
import Derived.Test.YtoijhhacgafblaaDoorCapZ
import Derived.Test.YtoijhhacgafblaaDoorCapLs
namespace Go.Proofs.YtoijhhacgafblaaDoor
set_option linter.unusedVariables false
set_option linter.unusedSimpArgs false
open Go.ChangeShapes Go.WideShapes Go.ChangeAt Go.RowKit

set_option maxHeartbeats 1600000 in
theorem CapTexts_walk (cb ct ca cp cy : Int) (cg : Bool) (kb kt ka kp ky : Int) (kg : Bool) (w : World) (htab : Tab w.heap.size w) (cb0 : 0 ≤ cb) (cb1 : cb < 18446744073709551616) (ct0 : 0 ≤ ct) (ct1 : ct < 18446744073709551616) (ca0 : 0 ≤ ca) (ca1 : ca < 18446744073709551616)
    (kb0 : 0 ≤ kb) (kb1 : kb < 18446744073709551616) (kt0 : 0 ≤ kt) (kt1 : kt < 18446744073709551616) (ka0 : 0 ≤ ka) (ka1 : ka < 18446744073709551616) (o1 o2 : Bool) (e1 : rightC (⟨cb, ct, ca, cp, cy, cg⟩ : CapV) = o1) (e2 : rightC (⟨kb, kt, ka, kp, ky, kg⟩ : CapV) = o2) :
    Calls Tryd.prog 9 #[.agg #[.int .u64 cb, .int .u64 ct, .int .u64 ca, .int .i64 cp, .int .i64 cy, .bool cg], .agg #[.int .u64 kb, .int .u64 kt, .int .u64 ka, .int .i64 kp, .int .i64 ky, .bool kg]] w fun e w' => e = .returned (.bool true) ∧ Below w.heap.size w w' := by
  have HT := Lib.hid htab
  clear htab
  go_enter Tryd.func9, Tryd.ntmps9
  go_wp2_with fail
  refine (awake_any _ (tab_on HT.out (bAlloc (bAlloc (Below.refl _ _) (.cells #[.int .u64 cb, .int .u64 ct, .int .u64 ca, .int .i64 cp, .int .i64 cy, .bool cg] 24)) (.cells #[.int .u64 kb, .int .u64 kt, .int .u64 ka, .int .i64 kp, .int .i64 ky, .bool kg] 24)))).mono ?_; rintro e w1 ⟨rfl, hb⟩
  have C1 := Lib.hid (bTrans (bAlloc (Below.refl _ _) (.cells #[.int .u64 kb, .int .u64 kt, .int .u64 ka, .int .i64 kp, .int .i64 ky, .bool kg] 24)) hb)
  have K1 := Lib.hid hb
  clear hb
  obtain ⟨c0, c1, c2, c3, c4, c5⟩ := cells6 C1.out
  obtain ⟨k0, k1, k2, k3, k4, k5⟩ := cells6 K1.out
  rw [size_alloc] at k0 k1 k2 k3 k4 k5
  go_wp2_with fail
  refine (right_any _ _ _ _ _ _ _).mono ?_; rintro e w2 ⟨rfl, hb⟩; rw [e1]
  have C2 := Lib.hid (bTrans C1.out hb)
  have K2 := Lib.hid (bTrans K1.out hb)
  clear hb c0 c1 c2 c3 c4 c5 k0 k1 k2 k3 k4 k5
  obtain ⟨c0, c1, c2, c3, c4, c5⟩ := cells6 C2.out
  obtain ⟨k0, k1, k2, k3, k4, k5⟩ := cells6 K2.out
  rw [size_alloc] at k0 k1 k2 k3 k4 k5
  go_wp2_with fail
  refine (right_any _ _ _ _ _ _ _).mono ?_; rintro e w3 ⟨rfl, hb⟩; rw [e2]
  have C3 := Lib.hid (bTrans C2.out hb)
  have K3 := Lib.hid (bTrans K2.out hb)
  clear hb c0 c1 c2 c3 c4 c5 k0 k1 k2 k3 k4 k5
  obtain ⟨c0, c1, c2, c3, c4, c5⟩ := cells6 C3.out
  obtain ⟨k0, k1, k2, k3, k4, k5⟩ := cells6 K3.out
  rw [size_alloc] at k0 k1 k2 k3 k4 k5
  have CE := Lib.hid e1
  have KE := Lib.hid e2
  clear e1 e2
  cases o1
  · go_wp2_with fail
    go_ret
    exact ⟨rfl, bTrans (bAlloc (Below.refl _ _) _) C3.out⟩
  cases o2
  · go_wp2_with fail
    go_ret
    exact ⟨rfl, bTrans (bAlloc (Below.refl _ _) _) C3.out⟩
  · have hinj : capText (⟨cb, ct, ca, cp, cy, cg⟩ : CapV) = capText (⟨kb, kt, ka, kp, ky, kg⟩ : CapV) → (⟨cb, ct, ca, cp, cy, cg⟩ : CapV) = (⟨kb, kt, ka, kp, ky, kg⟩ : CapV) := capText_inj CE.out KE.out cb0 ct0 ca0 kb0 kt0 ka0
    obtain ⟨s1, hs1⟩ : ∃ s, capText (⟨cb, ct, ca, cp, cy, cg⟩ : CapV) = s := ⟨_, rfl⟩
    obtain ⟨s2, hs2⟩ : ∃ s, capText (⟨kb, kt, ka, kp, ky, kg⟩ : CapV) = s := ⟨_, rfl⟩
    rw [hs1, hs2] at hinj
    have HI := Lib.hid hinj
    have S1 := Lib.hid hs1
    have S2 := Lib.hid hs2
    clear hinj hs1 hs2
    go_wp2_with fail
    refine (text_all cb ct ca cp cy cg _ (tab_on HT.out (bTrans (bAlloc (Below.refl _ _) _) C3.out)) CE.out cb0 cb1 ct0 ct1 ca0 ca1).mono ?_; rintro e w4 ⟨rfl, hb⟩; rw [S1.out]
    have C4 := Lib.hid (bTrans C3.out hb)
    have K4 := Lib.hid (bTrans K3.out hb)
    clear hb c0 c1 c2 c3 c4 c5 k0 k1 k2 k3 k4 k5
    obtain ⟨c0, c1, c2, c3, c4, c5⟩ := cells6 C4.out
    obtain ⟨k0, k1, k2, k3, k4, k5⟩ := cells6 K4.out
    rw [size_alloc] at k0 k1 k2 k3 k4 k5
    go_wp2_with fail
    refine (text_all kb kt ka kp ky kg _ (tab_on HT.out (bTrans (bAlloc (Below.refl _ _) _) C4.out)) KE.out kb0 kb1 kt0 kt1 ka0 ka1).mono ?_; rintro e w5 ⟨rfl, hb⟩; rw [S2.out]
    have C5 := Lib.hid (bTrans C4.out hb)
    have K5 := Lib.hid (bTrans K4.out hb)
    clear hb c0 c1 c2 c3 c4 c5 k0 k1 k2 k3 k4 k5
    obtain ⟨c0, c1, c2, c3, c4, c5⟩ := cells6 C5.out
    obtain ⟨k0, k1, k2, k3, k4, k5⟩ := cells6 K5.out
    rw [size_alloc] at k0 k1 k2 k3 k4 k5
    have FIN := Lib.hid (bTrans (bAlloc (Below.refl _ _) _) C5.out)
    clear C1 C2 C3 C4 C5 K1 K2 K3 K4 K5
    by_cases hq : (⟨cb, ct, ca, cp, cy, cg⟩ : CapV) = (⟨kb, kt, ka, kp, ky, kg⟩ : CapV)
    · have hs : s1 = s2 := by rw [← S1.out, ← S2.out, hq]
      simp only [CapV.mk.injEq] at hq
      obtain ⟨rfl, rfl, rfl, rfl, rfl, rfl⟩ := hq
      subst hs
      go_wp2_with fail
      all_goals go_ret
      all_goals exact ⟨rfl, FIN.out⟩
    · have hne : ¬ s1 = s2 := fun h => hq (HI.out h)
      have hf : (s1 == s2) = false := beq_false_of_ne hne
      have HQ := Lib.hid hq
      clear hq
      go_wp2_with fail
      all_goals first
        | (go_ret; exact ⟨rfl, FIN.out⟩)
        | (go_ret; refine ⟨?_, FIN.out⟩; simp [hf]; done)
        | (exfalso; refine HQ.out ?_; simp only [CapV.mk.injEq]; refine ⟨?_, ?_, ?_, ?_, ?_, ?_⟩; all_goals assumption)
end Go.Proofs.YtoijhhacgafblaaDoor
