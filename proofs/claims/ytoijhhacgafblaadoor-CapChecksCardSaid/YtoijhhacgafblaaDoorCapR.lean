/- Contracts of the document's own functions of capabilities: what each makes of a capability that may be one. -/
import Derived.Test.YtoijhhacgafblaaDoorCapA
import Derived.Test.YtoijhhacgafblaaDoorCapN
import Derived.StillTailTactics
namespace Go.Proofs.YtoijhhacgafblaaDoor
set_option linter.unusedVariables false
set_option linter.unusedSimpArgs false
open Go.ChangeShapes Go.WideShapes Go.ChangeAt Go.RowKit

theorem right_any (cb ct ca cp cy : Int) (cg : Bool) (w : World) :
    Calls Tryd.prog 11 #[.agg #[.int .u64 cb, .int .u64 ct, .int .u64 ca, .int .i64 cp, .int .i64 cy, .bool cg]] w fun e w' => e = .returned (.bool (rightC (⟨cb, ct, ca, cp, cy, cg⟩ : CapV))) ∧ Below w.heap.size w w' := by
  by_cases a1 : 0 ≤ cp
  · by_cases a2 : cp ≤ 255
    · by_cases a3 : -1 ≤ cy
      · have hb0 : rightC (⟨cb, ct, ca, cp, cy, cg⟩ : CapV) = decide (cy ≤ 63) := by simp only [rightC, decide_eq_true a1, decide_eq_true a2, decide_eq_true a3, Bool.true_and]
        rw [hb0]
        go_enter Tryd.func11, Tryd.ntmps11
        go_wp2
        go_ret
        exact ⟨rfl, (by repeat' (first | (with_reducible refine Below.setCell ?_ ?_ _) | (with_reducible refine bAlloc ?_ _) | (with_reducible refine bDrewN ?_ _) | (with_reducible refine Below.drew ?_) | (with_reducible exact Below.refl _ _) | (simp; done) | (simp; omega)))⟩
      · have hb0 : rightC (⟨cb, ct, ca, cp, cy, cg⟩ : CapV) = false := by simp only [rightC, decide_eq_false a3, Bool.and_false, Bool.false_and]
        rw [hb0]
        go_enter Tryd.func11, Tryd.ntmps11
        go_wp2
        go_ret
        exact ⟨rfl, (by repeat' (first | (with_reducible refine Below.setCell ?_ ?_ _) | (with_reducible refine bAlloc ?_ _) | (with_reducible refine bDrewN ?_ _) | (with_reducible refine Below.drew ?_) | (with_reducible exact Below.refl _ _) | (simp; done) | (simp; omega)))⟩
    · have hb0 : rightC (⟨cb, ct, ca, cp, cy, cg⟩ : CapV) = false := by simp only [rightC, decide_eq_false a2, Bool.and_false, Bool.false_and]
      rw [hb0]
      go_enter Tryd.func11, Tryd.ntmps11
      go_wp2
      go_ret
      exact ⟨rfl, (by repeat' (first | (with_reducible refine Below.setCell ?_ ?_ _) | (with_reducible refine bAlloc ?_ _) | (with_reducible refine bDrewN ?_ _) | (with_reducible refine Below.drew ?_) | (with_reducible exact Below.refl _ _) | (simp; done) | (simp; omega)))⟩
  · have hb0 : rightC (⟨cb, ct, ca, cp, cy, cg⟩ : CapV) = false := by simp only [rightC, decide_eq_false a1, Bool.and_false, Bool.false_and]
    rw [hb0]
    go_enter Tryd.func11, Tryd.ntmps11
    go_wp2
    go_ret
    exact ⟨rfl, (by repeat' (first | (with_reducible refine Below.setCell ?_ ?_ _) | (with_reducible refine bAlloc ?_ _) | (with_reducible refine bDrewN ?_ _) | (with_reducible refine Below.drew ?_) | (with_reducible exact Below.refl _ _) | (simp; done) | (simp; omega)))⟩
theorem rint_any (x : Int) (w : World) :
    Calls Tryd.prog 15 #[.int .u64 x] w fun e w' => e = .returned (.agg #[.int .u64 (intC x).base, .int .u64 (intC x).top, .int .u64 (intC x).at_, .int .i64 (intC x).perms, .int .i64 (intC x).ty, .bool (intC x).tag]) ∧ Below w.heap.size w w' := by
  go_enter Tryd.func15, Tryd.ntmps15
  go_wp2
  exact bodyPost_ret (v := .agg #[.int .u64 (intC x).base, .int .u64 (intC x).top, .int .u64 (intC x).at_, .int .i64 (intC x).perms, .int .i64 (intC x).ty, .bool (intC x).tag]) (by simp [results, Tryd.results15, go_sem, intC]) rfl ⟨rfl, (by repeat' (first | (with_reducible refine Below.setCell ?_ ?_ _) | (with_reducible refine bAlloc ?_ _) | (with_reducible refine bDrewN ?_ _) | (with_reducible refine Below.drew ?_) | (with_reducible exact Below.refl _ _) | (simp; done) | (simp; omega)))⟩
theorem rroot_any (x : Int) (w : World) :
    Calls Tryd.prog 16 #[.int .u64 x] w fun e w' => e = .returned (.agg #[.int .u64 (rootC x).base, .int .u64 (rootC x).top, .int .u64 (rootC x).at_, .int .i64 (rootC x).perms, .int .i64 (rootC x).ty, .bool (rootC x).tag]) ∧ Below w.heap.size w w' := by
  go_enter Tryd.func16, Tryd.ntmps16
  go_wp2
  exact bodyPost_ret (v := .agg #[.int .u64 (rootC x).base, .int .u64 (rootC x).top, .int .u64 (rootC x).at_, .int .i64 (rootC x).perms, .int .i64 (rootC x).ty, .bool (rootC x).tag]) (by simp [results, Tryd.results16, go_sem, rootC]) rfl ⟨rfl, (by repeat' (first | (with_reducible refine Below.setCell ?_ ?_ _) | (with_reducible refine bAlloc ?_ _) | (with_reducible refine bDrewN ?_ _) | (with_reducible refine Below.drew ?_) | (with_reducible exact Below.refl _ _) | (simp; done) | (simp; omega)))⟩
theorem rclear_any (cb ct ca cp cy : Int) (cg : Bool) (w : World) :
    Calls Tryd.prog 24 #[.agg #[.int .u64 cb, .int .u64 ct, .int .u64 ca, .int .i64 cp, .int .i64 cy, .bool cg]] w fun e w' => e = .returned (.agg #[.int .u64 cb, .int .u64 ct, .int .u64 ca, .int .i64 cp, .int .i64 cy, .bool false]) ∧ (w.alloc (.cells #[.int .u64 cb, .int .u64 ct, .int .u64 ca, .int .i64 cp, .int .i64 cy, .bool cg] 24)).alloc (.cells #[.int .u64 cb, .int .u64 ct, .int .u64 ca, .int .i64 cp, .int .i64 cy, .bool false] 24) = w' := by
  go_enter Tryd.func24, Tryd.ntmps24
  go_wp2
  exact bodyPost_ret (v := .agg #[.int .u64 cb, .int .u64 ct, .int .u64 ca, .int .i64 cp, .int .i64 cy, .bool false]) (by simp [results, Tryd.results24, go_sem, CapV.clear]) rfl ⟨rfl, rfl⟩
theorem rmove_any (cb ct ca cp cy : Int) (cg : Bool) (to : Int) (w : World) (hy : -1 ≤ cy) :
    Calls Tryd.prog 21 #[.agg #[.int .u64 cb, .int .u64 ct, .int .u64 ca, .int .i64 cp, .int .i64 cy, .bool cg], .int .u64 to] w fun e w' => e = .returned (.agg #[.int .u64 (moveC (⟨cb, ct, ca, cp, cy, cg⟩ : CapV) to).base, .int .u64 (moveC (⟨cb, ct, ca, cp, cy, cg⟩ : CapV) to).top, .int .u64 (moveC (⟨cb, ct, ca, cp, cy, cg⟩ : CapV) to).at_, .int .i64 (moveC (⟨cb, ct, ca, cp, cy, cg⟩ : CapV) to).perms, .int .i64 (moveC (⟨cb, ct, ca, cp, cy, cg⟩ : CapV) to).ty, .bool (moveC (⟨cb, ct, ca, cp, cy, cg⟩ : CapV) to).tag]) ∧ Below w.heap.size w w' := by
  have hm : moveC (⟨cb, ct, ca, cp, cy, cg⟩ : CapV) to = ⟨cb, ct, to, cp, cy, cg && cy == -1⟩ := by simp only [moveC, CapV.live, CapV.sealed, eq_low cy hy]
  rw [hm]
  cases cg
  · go_enter Tryd.func21, Tryd.ntmps21
    go_wp2
    exact bodyPost_ret (v := .agg #[.int .u64 cb, .int .u64 ct, .int .u64 to, .int .i64 cp, .int .i64 cy, .bool false]) (by simp [results, Tryd.results21, go_sem, CapV.clear]) rfl ⟨rfl, (by repeat' (first | (with_reducible refine Below.setCell ?_ ?_ _) | (with_reducible refine bAlloc ?_ _) | (with_reducible refine bDrewN ?_ _) | (with_reducible refine Below.drew ?_) | (with_reducible exact Below.refl _ _) | (simp; done) | (simp; omega)))⟩
  · go_enter Tryd.func21, Tryd.ntmps21
    go_wp2
    exact bodyPost_ret (v := .agg #[.int .u64 cb, .int .u64 ct, .int .u64 to, .int .i64 cp, .int .i64 cy, .bool (cy == -1)]) (by simp [results, Tryd.results21, go_sem, CapV.clear]) rfl ⟨rfl, (by repeat' (first | (with_reducible refine Below.setCell ?_ ?_ _) | (with_reducible refine bAlloc ?_ _) | (with_reducible refine bDrewN ?_ _) | (with_reducible refine Below.drew ?_) | (with_reducible exact Below.refl _ _) | (simp; done) | (simp; omega)))⟩
theorem inside_any (cb ct ca cp cy : Int) (cg : Bool) (n : Int) (w : World) (h1 : 0 ≤ ca) (h2 : ct < 18446744073709551616) (h3 : 0 ≤ n) :
    Calls Tryd.prog 38 #[.agg #[.int .u64 cb, .int .u64 ct, .int .u64 ca, .int .i64 cp, .int .i64 cy, .bool cg], .int .u64 n] w fun e w' => e = .returned (.bool (hasC (⟨cb, ct, ca, cp, cy, cg⟩ : CapV) n)) ∧ w.alloc (.cells #[.int .u64 cb, .int .u64 ct, .int .u64 ca, .int .i64 cp, .int .i64 cy, .bool cg] 24) = w' := by
  by_cases a1 : ca < cb
  · have hb0 : hasC (⟨cb, ct, ca, cp, cy, cg⟩ : CapV) n = false := by simp only [hasC]; simp; omega
    rw [hb0]
    go_enter Tryd.func38, Tryd.ntmps38
    go_wp2
    go_ret
    exact ⟨rfl, rfl⟩
  · by_cases a2 : ct < ca
    · have hb0 : hasC (⟨cb, ct, ca, cp, cy, cg⟩ : CapV) n = false := by simp only [hasC]; simp; omega
      rw [hb0]
      go_enter Tryd.func38, Tryd.ntmps38
      go_wp2
      go_ret
      exact ⟨rfl, rfl⟩
    · have hb0 : hasC (⟨cb, ct, ca, cp, cy, cg⟩ : CapV) n = decide (n ≤ ct - ca) := by simp only [hasC]; rw [Bool.eq_iff_iff]; simp; omega
      rw [hb0]
      go_enter Tryd.func38, Tryd.ntmps38
      go_wp2
      go_ret
      exact ⟨rfl, rfl⟩
set_option maxRecDepth 8000 in
theorem both_any (a b : Int) (w : World) (ha0 : 0 ≤ a) (ha : a < 256) (hb0 : 0 ≤ b) (hb : b < 256) :
    Calls Tryd.prog 39 #[.int .i64 a, .int .i64 b] w fun e w' => e = .returned (.int .i64 ((a.toNat &&& b.toNat : Nat) : Int)) ∧ w = w' := by
  obtain ⟨a, rfl⟩ := Int.eq_ofNat_of_zero_le ha0
  obtain ⟨b, rfl⟩ := Int.eq_ofNat_of_zero_le hb0
  rw [Int.toNat_natCast, Int.toNat_natCast]
  have ha' : a < 256 := by omega
  have hb' : b < 256 := by omega
  clear ha ha0 hb hb0
  go_enter Tryd.func39, Tryd.ntmps39
  go_wp2
  obtain ⟨N, HNN⟩ : ∃ N : Nat, Hid (256 ≤ N ∧ N ≤ 256) := ⟨256, Lib.hid ⟨by omega, by omega⟩⟩
  go_loop [5, 6] (fun o i => ∃ k B : Nat, Hid (B = 2 ^ k) ∧ B ≤ N ∧ 1 ≤ B ∧ i = .int .i64 B ∧ o = .int .i64 (((a &&& b) % B : Nat) : Int)) (fun _ i => N - (intOf i).toNat)
  case atStart => exact ⟨0, 1, Lib.hid rfl, by have := HNN.out; omega, by omega, rfl, by simp [Nat.mod_one]⟩
  case round =>
    obtain ⟨k, B, HB, hB1, hB2, rfl, rfl⟩ := hrel
    by_cases hlt : B < 256
    · obtain ⟨hb1, hb2⟩ := pow_bd k B HB.out hlt
      have hmod : (a &&& b) % B < B := Nat.mod_lt _ (by omega)
      have e1 := half_bool a B ha'
      have e2 := half_bool b B hb'
      have HD := Lib.hid (pow_dbl k B HB.out)
      have HY := Lib.hid (both_yes a b k B HB.out)
      have HN := Lib.hid (both_no a b k B HB.out)
      have hbI : (B : Int) ≤ 128 := by omega
      clear hlt hB1 hb1
      generalize hM : (a &&& b) % B = M at *
      have HM := Lib.hid hM
      clear hM
      by_cases c1 : a / B % 2 = 1
      · rw [decide_eq_true c1] at e1
        by_cases c2 : b / B % 2 = 1
        · rw [decide_eq_true c2] at e2
          have HZ := Lib.hid (HY.out ⟨c1, c2⟩)
          clear c1 c2
          go_wp2
          go_round
          case rel => exact ⟨k + 1, B * 2, HD, by have := HNN.out; omega, by omega, by go_num, by rw [← HZ.out]; go_num⟩
          case measure => have := HNN.out; simp [intOf]; try omega
        · rw [decide_eq_false c2] at e2
          have HZ := Lib.hid (HN.out (fun h => c2 h.2))
          clear c1 c2
          go_wp2
          go_round
          case rel => exact ⟨k + 1, B * 2, HD, by have := HNN.out; omega, by omega, by go_num, by rw [← HZ.out]⟩
          case measure => have := HNN.out; simp [intOf]; try omega
      · rw [decide_eq_false c1] at e1
        have HZ := Lib.hid (HN.out (fun h => c1 h.1))
        clear c1
        go_wp2
        go_round
        case rel => exact ⟨k + 1, B * 2, HD, by have := HNN.out; omega, by omega, by go_num, by rw [← HZ.out]⟩
        case measure => have := HNN.out; simp [intOf]; try omega
    · have := HNN.out
      have hE : (a &&& b) % B = a &&& b := Nat.mod_eq_of_lt (by have := Nat.and_le_left (n := a) (m := b); omega)
      have hBB : B = 256 := by omega
      have HE := Lib.hid hE
      have hge : ¬ ((B : Int) < 256) := by omega
      clear hE this hlt hBB hB1
      go_wp2
      go_ret
      exact ⟨ret_int (congrArg (fun n : Nat => (n : Int)) HE.out), rfl⟩
theorem rkey_any (kb kt ka kp ky : Int) (kg : Bool) (perm : Int) (w : World) (h1 : 0 ≤ kp) (h2 : kp ≤ 255) (h3 : 0 ≤ perm) (h4 : perm ≤ 255) :
    Calls Tryd.prog 41 #[.agg #[.int .u64 kb, .int .u64 kt, .int .u64 ka, .int .i64 kp, .int .i64 ky, .bool kg], .int .i64 perm] w fun e w' => e = .returned (.bool (rkeyC (⟨kb, kt, ka, kp, ky, kg⟩ : CapV) perm)) ∧ w.alloc (.cells #[.int .u64 kb, .int .u64 kt, .int .u64 ka, .int .i64 kp, .int .i64 ky, .bool kg] 24) = w' := by
  cases kg
  · skip
    have hb0 : rkeyC (⟨kb, kt, ka, kp, ky, false⟩ : CapV) perm = false := by simp only [rkeyC, Bool.false_and, Bool.and_false, Bool.true_and, Bool.and_true, Bool.not_true, Bool.not_false, Bool.false_or, Bool.or_false, Bool.true_or, Bool.or_true, if_true, if_false, Bool.false_eq_true]
    rw [hb0]
    clear hb0
    go_enter Tryd.func41, Tryd.ntmps41
    go_wp2_with (go_at_call 39; refine (both_any _ _ _ (by omega) (by omega) (by omega) (by omega)).mono ?_; rintro e w1 ⟨rfl, rfl⟩)
    go_ret
    exact ⟨rfl, rfl⟩
  · skip
    cases ta2 : (ky == -1)
    · have Ha2 := Lib.hid ta2
      have hb0 : rkeyC (⟨kb, kt, ka, kp, ky, true⟩ : CapV) perm = false := by simp only [rkeyC, Ha2.out, Bool.false_and, Bool.and_false, Bool.true_and, Bool.and_true, Bool.not_true, Bool.not_false, Bool.false_or, Bool.or_false, Bool.true_or, Bool.or_true, if_true, if_false, Bool.false_eq_true]
      rw [hb0]
      clear hb0
      have hne : (ky != -1) = true := by rw [bne, ta2]; rfl
      clear ta2
      go_enter Tryd.func41, Tryd.ntmps41
      go_wp2_with (go_at_call 39; refine (both_any _ _ _ (by omega) (by omega) (by omega) (by omega)).mono ?_; rintro e w1 ⟨rfl, rfl⟩)
      go_ret
      exact ⟨rfl, rfl⟩
    · have Ha2 := Lib.hid ta2
      cases ta3 : (((kp.toNat &&& perm.toNat : Nat) : Int) == 0)
      · have Ha3 := Lib.hid ta3
        cases ta4 : decide (kb ≤ ka)
        · have Ha4 := Lib.hid ta4
          have hb0 : rkeyC (⟨kb, kt, ka, kp, ky, true⟩ : CapV) perm = false := by simp only [rkeyC, Ha2.out, Ha3.out, Ha4.out, Bool.false_and, Bool.and_false, Bool.true_and, Bool.and_true, Bool.not_true, Bool.not_false, Bool.false_or, Bool.or_false, Bool.true_or, Bool.or_true, if_true, if_false, Bool.false_eq_true]
          rw [hb0]
          clear hb0
          have hne : (ky != -1) = false := by rw [bne, ta2]; rfl
          clear ta2
          go_enter Tryd.func41, Tryd.ntmps41
          go_wp2_with (go_at_call 39; refine (both_any _ _ _ (by omega) (by omega) (by omega) (by omega)).mono ?_; rintro e w1 ⟨rfl, rfl⟩)
          go_ret
          exact ⟨rfl, rfl⟩
        · have Ha4 := Lib.hid ta4
          cases ta5 : decide (ka < kt)
          · have Ha5 := Lib.hid ta5
            have hb0 : rkeyC (⟨kb, kt, ka, kp, ky, true⟩ : CapV) perm = false := by simp only [rkeyC, Ha2.out, Ha3.out, Ha4.out, Ha5.out, Bool.false_and, Bool.and_false, Bool.true_and, Bool.and_true, Bool.not_true, Bool.not_false, Bool.false_or, Bool.or_false, Bool.true_or, Bool.or_true, if_true, if_false, Bool.false_eq_true]
            rw [hb0]
            clear hb0
            have hne : (ky != -1) = false := by rw [bne, ta2]; rfl
            clear ta2
            go_enter Tryd.func41, Tryd.ntmps41
            go_wp2_with (go_at_call 39; refine (both_any _ _ _ (by omega) (by omega) (by omega) (by omega)).mono ?_; rintro e w1 ⟨rfl, rfl⟩)
            go_ret
            exact ⟨rfl, rfl⟩
          · have Ha5 := Lib.hid ta5
            cases ta6 : decide (ka < 64)
            · have Ha6 := Lib.hid ta6
              have hb0 : rkeyC (⟨kb, kt, ka, kp, ky, true⟩ : CapV) perm = false := by simp only [rkeyC, Ha2.out, Ha3.out, Ha4.out, Ha5.out, Ha6.out, Bool.false_and, Bool.and_false, Bool.true_and, Bool.and_true, Bool.not_true, Bool.not_false, Bool.false_or, Bool.or_false, Bool.true_or, Bool.or_true, if_true, if_false, Bool.false_eq_true]
              rw [hb0]
              clear hb0
              have hne : (ky != -1) = false := by rw [bne, ta2]; rfl
              clear ta2
              go_enter Tryd.func41, Tryd.ntmps41
              go_wp2_with (go_at_call 39; refine (both_any _ _ _ (by omega) (by omega) (by omega) (by omega)).mono ?_; rintro e w1 ⟨rfl, rfl⟩)
              go_ret
              exact ⟨rfl, rfl⟩
            · have Ha6 := Lib.hid ta6
              have hb0 : rkeyC (⟨kb, kt, ka, kp, ky, true⟩ : CapV) perm = true := by simp only [rkeyC, Ha2.out, Ha3.out, Ha4.out, Ha5.out, Ha6.out, Bool.false_and, Bool.and_false, Bool.true_and, Bool.and_true, Bool.not_true, Bool.not_false, Bool.false_or, Bool.or_false, Bool.true_or, Bool.or_true, if_true, if_false, Bool.false_eq_true]
              rw [hb0]
              clear hb0
              have hne : (ky != -1) = false := by rw [bne, ta2]; rfl
              clear ta2
              go_enter Tryd.func41, Tryd.ntmps41
              go_wp2_with (go_at_call 39; refine (both_any _ _ _ (by omega) (by omega) (by omega) (by omega)).mono ?_; rintro e w1 ⟨rfl, rfl⟩)
              go_ret
              exact ⟨rfl, rfl⟩
      · have Ha3 := Lib.hid ta3
        have hb0 : rkeyC (⟨kb, kt, ka, kp, ky, true⟩ : CapV) perm = false := by simp only [rkeyC, Ha2.out, Ha3.out, Bool.false_and, Bool.and_false, Bool.true_and, Bool.and_true, Bool.not_true, Bool.not_false, Bool.false_or, Bool.or_false, Bool.true_or, Bool.or_true, if_true, if_false, Bool.false_eq_true]
        rw [hb0]
        clear hb0
        have hne : (ky != -1) = false := by rw [bne, ta2]; rfl
        clear ta2
        go_enter Tryd.func41, Tryd.ntmps41
        go_wp2_with (go_at_call 39; refine (both_any _ _ _ (by omega) (by omega) (by omega) (by omega)).mono ?_; rintro e w1 ⟨rfl, rfl⟩)
        go_ret
        exact ⟨rfl, rfl⟩
set_option maxHeartbeats 1000000 in
theorem rbound_any (cb ct ca cp cy : Int) (cg : Bool) (n : Int) (w : World) (h1 : 0 ≤ ca) (h4 : ct < 18446744073709551616) (h3 : 0 ≤ n) (hy : -1 ≤ cy) :
    Calls Tryd.prog 22 #[.agg #[.int .u64 cb, .int .u64 ct, .int .u64 ca, .int .i64 cp, .int .i64 cy, .bool cg], .int .u64 n] w fun e w' => e = .returned (.agg #[.int .u64 (boundC (⟨cb, ct, ca, cp, cy, cg⟩ : CapV) n).base, .int .u64 (boundC (⟨cb, ct, ca, cp, cy, cg⟩ : CapV) n).top, .int .u64 (boundC (⟨cb, ct, ca, cp, cy, cg⟩ : CapV) n).at_, .int .i64 (boundC (⟨cb, ct, ca, cp, cy, cg⟩ : CapV) n).perms, .int .i64 (boundC (⟨cb, ct, ca, cp, cy, cg⟩ : CapV) n).ty, .bool (boundC (⟨cb, ct, ca, cp, cy, cg⟩ : CapV) n).tag]) ∧ Below w.heap.size w w' := by
  cases cg
  · skip
    have hb0 : boundC (⟨cb, ct, ca, cp, cy, false⟩ : CapV) n = CapV.clear (⟨cb, ct, ca, cp, cy, false⟩ : CapV) := by
      unfold boundC
      rw [live_low (⟨cb, ct, ca, cp, cy, false⟩ : CapV) hy]
      simp only [Bool.true_and, Bool.false_and, Bool.and_false, Bool.true_and, Bool.and_true, Bool.not_true, Bool.not_false, Bool.false_or, Bool.or_false, Bool.true_or, Bool.or_true, if_true, if_false, Bool.false_eq_true]
    rw [hb0]
    clear hb0
    go_enter Tryd.func22, Tryd.ntmps22
    go_wp2_with (first | (go_at_call 38; refine (inside_any _ _ _ _ _ _ _ _ h1 h4 h3).mono ?_; rintro e w1 ⟨rfl, rfl⟩) | (go_at_call 24; refine (rclear_any _ _ _ _ _ _ _).mono ?_; rintro e w1 ⟨rfl, rfl⟩))
    exact bodyPost_ret (v := .agg #[.int .u64 cb, .int .u64 ct, .int .u64 ca, .int .i64 cp, .int .i64 cy, .bool false]) (by simp [results, Tryd.results22, go_sem, CapV.clear]) rfl ⟨rfl, (by repeat' (first | (with_reducible refine Below.setCell ?_ ?_ _) | (with_reducible refine bAlloc ?_ _) | (with_reducible refine bDrewN ?_ _) | (with_reducible refine Below.drew ?_) | (with_reducible exact Below.refl _ _) | (simp; done) | (simp; omega)))⟩
  · skip
    cases ta2 : (cy == -1)
    · have Ha2 := Lib.hid ta2
      have hb0 : boundC (⟨cb, ct, ca, cp, cy, true⟩ : CapV) n = CapV.clear (⟨cb, ct, ca, cp, cy, true⟩ : CapV) := by
        unfold boundC
        rw [live_low (⟨cb, ct, ca, cp, cy, true⟩ : CapV) hy]
        simp only [Bool.true_and, Ha2.out, Bool.false_and, Bool.and_false, Bool.true_and, Bool.and_true, Bool.not_true, Bool.not_false, Bool.false_or, Bool.or_false, Bool.true_or, Bool.or_true, if_true, if_false, Bool.false_eq_true]
      rw [hb0]
      clear hb0
      have hne : (cy != -1) = true := by rw [bne, ta2]; rfl
      clear ta2
      go_enter Tryd.func22, Tryd.ntmps22
      go_wp2_with (first | (go_at_call 38; refine (inside_any _ _ _ _ _ _ _ _ h1 h4 h3).mono ?_; rintro e w1 ⟨rfl, rfl⟩) | (go_at_call 24; refine (rclear_any _ _ _ _ _ _ _).mono ?_; rintro e w1 ⟨rfl, rfl⟩))
      exact bodyPost_ret (v := .agg #[.int .u64 cb, .int .u64 ct, .int .u64 ca, .int .i64 cp, .int .i64 cy, .bool false]) (by simp [results, Tryd.results22, go_sem, CapV.clear]) rfl ⟨rfl, (by repeat' (first | (with_reducible refine Below.setCell ?_ ?_ _) | (with_reducible refine bAlloc ?_ _) | (with_reducible refine bDrewN ?_ _) | (with_reducible refine Below.drew ?_) | (with_reducible exact Below.refl _ _) | (simp; done) | (simp; omega)))⟩
    · have Ha2 := Lib.hid ta2
      cases ta3 : hasC (⟨cb, ct, ca, cp, cy, true⟩ : CapV) n
      · have Ha3 := Lib.hid ta3
        have hb0 : boundC (⟨cb, ct, ca, cp, cy, true⟩ : CapV) n = CapV.clear (⟨cb, ct, ca, cp, cy, true⟩ : CapV) := by
          unfold boundC
          rw [live_low (⟨cb, ct, ca, cp, cy, true⟩ : CapV) hy]
          simp only [Bool.true_and, Ha2.out, Ha3.out, Bool.false_and, Bool.and_false, Bool.true_and, Bool.and_true, Bool.not_true, Bool.not_false, Bool.false_or, Bool.or_false, Bool.true_or, Bool.or_true, if_true, if_false, Bool.false_eq_true]
        rw [hb0]
        clear hb0
        have hne : (cy != -1) = false := by rw [bne, ta2]; rfl
        clear ta2
        go_enter Tryd.func22, Tryd.ntmps22
        go_wp2_with (first | (go_at_call 38; refine (inside_any _ _ _ _ _ _ _ _ h1 h4 h3).mono ?_; rintro e w1 ⟨rfl, rfl⟩) | (go_at_call 24; refine (rclear_any _ _ _ _ _ _ _).mono ?_; rintro e w1 ⟨rfl, rfl⟩))
        exact bodyPost_ret (v := .agg #[.int .u64 cb, .int .u64 ct, .int .u64 ca, .int .i64 cp, .int .i64 cy, .bool false]) (by simp [results, Tryd.results22, go_sem, CapV.clear]) rfl ⟨rfl, (by repeat' (first | (with_reducible refine Below.setCell ?_ ?_ _) | (with_reducible refine bAlloc ?_ _) | (with_reducible refine bDrewN ?_ _) | (with_reducible refine Below.drew ?_) | (with_reducible exact Below.refl _ _) | (simp; done) | (simp; omega)))⟩
      · have Ha3 := Lib.hid ta3
        have hb0 : boundC (⟨cb, ct, ca, cp, cy, true⟩ : CapV) n = (⟨ca, ca + n, ca, cp, cy, true⟩ : CapV) := by
          unfold boundC
          rw [live_low (⟨cb, ct, ca, cp, cy, true⟩ : CapV) hy]
          simp only [Bool.true_and, Ha2.out, Ha3.out, Bool.false_and, Bool.and_false, Bool.true_and, Bool.and_true, Bool.not_true, Bool.not_false, Bool.false_or, Bool.or_false, Bool.true_or, Bool.or_true, if_true, if_false, Bool.false_eq_true]
        rw [hb0]
        clear hb0
        have hne : (cy != -1) = false := by rw [bne, ta2]; rfl
        clear ta2
        have hle : ca + n ≤ ct := by have := Ha3.out; simp [hasC] at this; omega
        have hcy : cy = -1 := beq_iff_eq.1 Ha2.out
        subst hcy
        go_enter Tryd.func22, Tryd.ntmps22
        go_wp2_with (first | (go_at_call 38; refine (inside_any _ _ _ _ _ _ _ _ h1 h4 h3).mono ?_; rintro e w1 ⟨rfl, rfl⟩) | (go_at_call 24; refine (rclear_any _ _ _ _ _ _ _).mono ?_; rintro e w1 ⟨rfl, rfl⟩))
        exact bodyPost_ret (v := .agg #[.int .u64 ca, .int .u64 (ca + n), .int .u64 ca, .int .i64 cp, .int .i64 (-1), .bool true]) (by simp [results, Tryd.results22, go_sem, CapV.clear]) rfl ⟨rfl, (by repeat' (first | (with_reducible refine Below.setCell ?_ ?_ _) | (with_reducible refine bAlloc ?_ _) | (with_reducible refine bDrewN ?_ _) | (with_reducible refine Below.drew ?_) | (with_reducible exact Below.refl _ _) | (simp; done) | (simp; omega)))⟩
theorem both_same (a b : Int) (w : World) (ha0 : 0 ≤ a) (ha : a < 256) (hb0 : 0 ≤ b) (hb : b < 256) :
    Calls Tryd.prog 39 #[.int .i64 a, .int .i64 b] w fun e w' => e = .returned (.int .i64 ((a.toNat &&& b.toNat : Nat) : Int)) ∧ w' = w :=
  (both_any a b w ha0 ha hb0 hb).mono fun _ _ h => ⟨h.1, h.2.symm⟩
set_option maxHeartbeats 1000000 in
theorem rand_any (cb ct ca cp cy : Int) (cg : Bool) (p : Int) (w : World) (h1 : 0 ≤ cp) (h2 : cp ≤ 255) (hy : -1 ≤ cy) :
    Calls Tryd.prog 23 #[.agg #[.int .u64 cb, .int .u64 ct, .int .u64 ca, .int .i64 cp, .int .i64 cy, .bool cg], .int .i64 p] w fun e w' => e = .returned (.agg #[.int .u64 (andC (⟨cb, ct, ca, cp, cy, cg⟩ : CapV) p).base, .int .u64 (andC (⟨cb, ct, ca, cp, cy, cg⟩ : CapV) p).top, .int .u64 (andC (⟨cb, ct, ca, cp, cy, cg⟩ : CapV) p).at_, .int .i64 (andC (⟨cb, ct, ca, cp, cy, cg⟩ : CapV) p).perms, .int .i64 (andC (⟨cb, ct, ca, cp, cy, cg⟩ : CapV) p).ty, .bool (andC (⟨cb, ct, ca, cp, cy, cg⟩ : CapV) p).tag]) ∧ Below w.heap.size w w' := by
  cases cg
  · skip
    have hb0 : andC (⟨cb, ct, ca, cp, cy, false⟩ : CapV) p = (⟨cb, ct, ca, ((cp.toNat &&& (p % 256).toNat : Nat) : Int), cy, false⟩ : CapV) := by
      unfold andC
      rw [live_low _ hy]
      simp only [Bool.true_and, ← and_both cp p h1 h2, Bool.false_and, Bool.and_false, Bool.true_and, Bool.and_true, Bool.not_true, Bool.not_false, Bool.false_or, Bool.or_false, Bool.true_or, Bool.or_true, if_true, if_false, Bool.false_eq_true]
    rw [hb0]
    clear hb0
    have e255 := and255 p
    have m1 : 0 ≤ p % 256 := by omega
    have m2 : p % 256 < 256 := by omega
    go_enter Tryd.func23, Tryd.ntmps23
    go_wp2_with fail
    refine wp_region_still_tail 21 (by kernel_rfl) (by kernel_rfl) ?_
    change wpStill _ _ (World.drew _) _ _ _
    simp only [List.take_succ_cons, List.take_zero, List.drop_succ_cons, List.drop_zero]
    repeat still_step
    (refine wpStill_step (fun K hK => ?_)); go_simp
    refine ⟨_, both_same cp (p % 256) _ (by omega) (by omega) (by omega) (by omega), hK _ ?_⟩; clear hK K
    repeat still_step
    refine wpStill_nil ?_
    change wpList _ _ _ _ _ (World.drew _)
    go_wp2
    exact bodyPost_ret (v := .agg #[.int .u64 cb, .int .u64 ct, .int .u64 ca, .int .i64 ((cp.toNat &&& (p % 256).toNat : Nat) : Int), .int .i64 cy, .bool false]) (by simp [results, Tryd.results23, go_sem, CapV.clear]) rfl ⟨rfl, (by repeat' (first | (with_reducible refine Below.setCell ?_ ?_ _) | (with_reducible refine bAlloc ?_ _) | (with_reducible refine bDrewN ?_ _) | (with_reducible refine Below.drew ?_) | (with_reducible exact Below.refl _ _) | (simp; done) | (simp; omega)))⟩
  · skip
    cases ta2 : (cy == -1)
    · have Ha2 := Lib.hid ta2
      have hb0 : andC (⟨cb, ct, ca, cp, cy, true⟩ : CapV) p = (⟨cb, ct, ca, ((cp.toNat &&& (p % 256).toNat : Nat) : Int), cy, false⟩ : CapV) := by
        unfold andC
        rw [live_low _ hy]
        simp only [Bool.true_and, ← and_both cp p h1 h2, Ha2.out, Bool.false_and, Bool.and_false, Bool.true_and, Bool.and_true, Bool.not_true, Bool.not_false, Bool.false_or, Bool.or_false, Bool.true_or, Bool.or_true, if_true, if_false, Bool.false_eq_true]
      rw [hb0]
      clear hb0
      have e255 := and255 p
      have m1 : 0 ≤ p % 256 := by omega
      have m2 : p % 256 < 256 := by omega
      go_enter Tryd.func23, Tryd.ntmps23
      go_wp2_with fail
      refine wp_region_still_tail 21 (by kernel_rfl) (by kernel_rfl) ?_
      change wpStill _ _ (World.drew _) _ _ _
      simp only [List.take_succ_cons, List.take_zero, List.drop_succ_cons, List.drop_zero]
      repeat still_step
      (refine wpStill_step (fun K hK => ?_)); go_simp
      refine ⟨_, both_same cp (p % 256) _ (by omega) (by omega) (by omega) (by omega), hK _ ?_⟩; clear hK K
      repeat still_step
      refine wpStill_nil ?_
      change wpList _ _ _ _ _ (World.drew _)
      go_wp2
      exact bodyPost_ret (v := .agg #[.int .u64 cb, .int .u64 ct, .int .u64 ca, .int .i64 ((cp.toNat &&& (p % 256).toNat : Nat) : Int), .int .i64 cy, .bool false]) (by simp [results, Tryd.results23, go_sem, CapV.clear]) rfl ⟨rfl, (by repeat' (first | (with_reducible refine Below.setCell ?_ ?_ _) | (with_reducible refine bAlloc ?_ _) | (with_reducible refine bDrewN ?_ _) | (with_reducible refine Below.drew ?_) | (with_reducible exact Below.refl _ _) | (simp; done) | (simp; omega)))⟩
    · have Ha2 := Lib.hid ta2
      have hb0 : andC (⟨cb, ct, ca, cp, cy, true⟩ : CapV) p = (⟨cb, ct, ca, ((cp.toNat &&& (p % 256).toNat : Nat) : Int), cy, true⟩ : CapV) := by
        unfold andC
        rw [live_low _ hy]
        simp only [Bool.true_and, ← and_both cp p h1 h2, Ha2.out, Bool.false_and, Bool.and_false, Bool.true_and, Bool.and_true, Bool.not_true, Bool.not_false, Bool.false_or, Bool.or_false, Bool.true_or, Bool.or_true, if_true, if_false, Bool.false_eq_true]
      rw [hb0]
      clear hb0
      have e255 := and255 p
      have m1 : 0 ≤ p % 256 := by omega
      have m2 : p % 256 < 256 := by omega
      go_enter Tryd.func23, Tryd.ntmps23
      go_wp2_with fail
      refine wp_region_still_tail 21 (by kernel_rfl) (by kernel_rfl) ?_
      change wpStill _ _ (World.drew _) _ _ _
      simp only [List.take_succ_cons, List.take_zero, List.drop_succ_cons, List.drop_zero]
      repeat still_step
      (refine wpStill_step (fun K hK => ?_)); go_simp
      refine ⟨_, both_same cp (p % 256) _ (by omega) (by omega) (by omega) (by omega), hK _ ?_⟩; clear hK K
      repeat still_step
      refine wpStill_nil ?_
      change wpList _ _ _ _ _ (World.drew _)
      go_wp2
      exact bodyPost_ret (v := .agg #[.int .u64 cb, .int .u64 ct, .int .u64 ca, .int .i64 ((cp.toNat &&& (p % 256).toNat : Nat) : Int), .int .i64 cy, .bool true]) (by simp [results, Tryd.results23, go_sem, CapV.clear]) rfl ⟨rfl, (by repeat' (first | (with_reducible refine Below.setCell ?_ ?_ _) | (with_reducible refine bAlloc ?_ _) | (with_reducible refine bDrewN ?_ _) | (with_reducible refine Below.drew ?_) | (with_reducible exact Below.refl _ _) | (simp; done) | (simp; omega)))⟩
set_option maxHeartbeats 1000000 in
theorem rseal0_any (cb ct ca cp cy : Int) (cg : Bool) (kb kt ka kp ky : Int) (kg : Bool) (w : World) (h0 : 0 ≤ ka) (h1 : 0 ≤ kp) (h2 : kp ≤ 255) :
    Calls Tryd.prog 27 #[.agg #[.int .u64 cb, .int .u64 ct, .int .u64 ca, .int .i64 cp, .int .i64 cy, .bool cg], .agg #[.int .u64 kb, .int .u64 kt, .int .u64 ka, .int .i64 kp, .int .i64 ky, .bool kg]] w fun e w' => e = .returned (.agg #[.int .u64 (rsealC (⟨cb, ct, ca, cp, cy, cg⟩ : CapV) (⟨kb, kt, ka, kp, ky, kg⟩ : CapV)).base, .int .u64 (rsealC (⟨cb, ct, ca, cp, cy, cg⟩ : CapV) (⟨kb, kt, ka, kp, ky, kg⟩ : CapV)).top, .int .u64 (rsealC (⟨cb, ct, ca, cp, cy, cg⟩ : CapV) (⟨kb, kt, ka, kp, ky, kg⟩ : CapV)).at_, .int .i64 (rsealC (⟨cb, ct, ca, cp, cy, cg⟩ : CapV) (⟨kb, kt, ka, kp, ky, kg⟩ : CapV)).perms, .int .i64 (rsealC (⟨cb, ct, ca, cp, cy, cg⟩ : CapV) (⟨kb, kt, ka, kp, ky, kg⟩ : CapV)).ty, .bool (rsealC (⟨cb, ct, ca, cp, cy, cg⟩ : CapV) (⟨kb, kt, ka, kp, ky, kg⟩ : CapV)).tag]) ∧ Below w.heap.size w w' := by
  cases cg
  · skip
    have hb0 : rsealC (⟨cb, ct, ca, cp, cy, false⟩ : CapV) (⟨kb, kt, ka, kp, ky, kg⟩ : CapV) = CapV.clear (⟨cb, ct, ca, cp, cy, false⟩ : CapV) := by
      unfold rsealC
      simp only [Bool.true_and, Bool.false_and, Bool.and_false, Bool.true_and, Bool.and_true, Bool.not_true, Bool.not_false, Bool.false_or, Bool.or_false, Bool.true_or, Bool.or_true, if_true, if_false, Bool.false_eq_true]
    rw [hb0]
    clear hb0
    go_enter Tryd.func27, Tryd.ntmps27
    go_wp2_with (first | (go_at_call 41; refine (rkey_any _ _ _ _ _ _ _ _ (by omega) (by omega) (by decide) (by decide)).mono ?_; rintro e w1 ⟨rfl, rfl⟩) | (go_at_call 24; refine (rclear_any _ _ _ _ _ _ _).mono ?_; rintro e w1 ⟨rfl, rfl⟩))
    exact bodyPost_ret (v := .agg #[.int .u64 cb, .int .u64 ct, .int .u64 ca, .int .i64 cp, .int .i64 cy, .bool false]) (by simp [results, Tryd.results27, go_sem, CapV.clear]) rfl ⟨rfl, (by repeat' (first | (with_reducible refine Below.setCell ?_ ?_ _) | (with_reducible refine bAlloc ?_ _) | (with_reducible refine bDrewN ?_ _) | (with_reducible refine Below.drew ?_) | (with_reducible exact Below.refl _ _) | (simp; done) | (simp; omega)))⟩
  · skip
    cases ta2 : (cy == -1)
    · have Ha2 := Lib.hid ta2
      have hb0 : rsealC (⟨cb, ct, ca, cp, cy, true⟩ : CapV) (⟨kb, kt, ka, kp, ky, kg⟩ : CapV) = CapV.clear (⟨cb, ct, ca, cp, cy, true⟩ : CapV) := by
        unfold rsealC
        simp only [Bool.true_and, Ha2.out, Bool.false_and, Bool.and_false, Bool.true_and, Bool.and_true, Bool.not_true, Bool.not_false, Bool.false_or, Bool.or_false, Bool.true_or, Bool.or_true, if_true, if_false, Bool.false_eq_true]
      rw [hb0]
      clear hb0
      have hne : (cy != -1) = true := by rw [bne, ta2]; rfl
      clear ta2
      go_enter Tryd.func27, Tryd.ntmps27
      go_wp2_with (first | (go_at_call 41; refine (rkey_any _ _ _ _ _ _ _ _ (by omega) (by omega) (by decide) (by decide)).mono ?_; rintro e w1 ⟨rfl, rfl⟩) | (go_at_call 24; refine (rclear_any _ _ _ _ _ _ _).mono ?_; rintro e w1 ⟨rfl, rfl⟩))
      exact bodyPost_ret (v := .agg #[.int .u64 cb, .int .u64 ct, .int .u64 ca, .int .i64 cp, .int .i64 cy, .bool false]) (by simp [results, Tryd.results27, go_sem, CapV.clear]) rfl ⟨rfl, (by repeat' (first | (with_reducible refine Below.setCell ?_ ?_ _) | (with_reducible refine bAlloc ?_ _) | (with_reducible refine bDrewN ?_ _) | (with_reducible refine Below.drew ?_) | (with_reducible exact Below.refl _ _) | (simp; done) | (simp; omega)))⟩
    · have Ha2 := Lib.hid ta2
      cases ta3 : rkeyC (⟨kb, kt, ka, kp, ky, kg⟩ : CapV) 32
      · have Ha3 := Lib.hid ta3
        have hb0 : rsealC (⟨cb, ct, ca, cp, cy, true⟩ : CapV) (⟨kb, kt, ka, kp, ky, kg⟩ : CapV) = CapV.clear (⟨cb, ct, ca, cp, cy, true⟩ : CapV) := by
          unfold rsealC
          simp only [Bool.true_and, Ha2.out, Ha3.out, Bool.false_and, Bool.and_false, Bool.true_and, Bool.and_true, Bool.not_true, Bool.not_false, Bool.false_or, Bool.or_false, Bool.true_or, Bool.or_true, if_true, if_false, Bool.false_eq_true]
        rw [hb0]
        clear hb0
        have hne : (cy != -1) = false := by rw [bne, ta2]; rfl
        clear ta2
        go_enter Tryd.func27, Tryd.ntmps27
        go_wp2_with (first | (go_at_call 41; refine (rkey_any _ _ _ _ _ _ _ _ (by omega) (by omega) (by decide) (by decide)).mono ?_; rintro e w1 ⟨rfl, rfl⟩) | (go_at_call 24; refine (rclear_any _ _ _ _ _ _ _).mono ?_; rintro e w1 ⟨rfl, rfl⟩))
        exact bodyPost_ret (v := .agg #[.int .u64 cb, .int .u64 ct, .int .u64 ca, .int .i64 cp, .int .i64 cy, .bool false]) (by simp [results, Tryd.results27, go_sem, CapV.clear]) rfl ⟨rfl, (by repeat' (first | (with_reducible refine Below.setCell ?_ ?_ _) | (with_reducible refine bAlloc ?_ _) | (with_reducible refine bDrewN ?_ _) | (with_reducible refine Below.drew ?_) | (with_reducible exact Below.refl _ _) | (simp; done) | (simp; omega)))⟩
      · have Ha3 := Lib.hid ta3
        have hb0 : rsealC (⟨cb, ct, ca, cp, cy, true⟩ : CapV) (⟨kb, kt, ka, kp, ky, kg⟩ : CapV) = (⟨cb, ct, ca, cp, ka, true⟩ : CapV) := by
          unfold rsealC
          simp only [Bool.true_and, Ha2.out, Ha3.out, Bool.false_and, Bool.and_false, Bool.true_and, Bool.and_true, Bool.not_true, Bool.not_false, Bool.false_or, Bool.or_false, Bool.true_or, Bool.or_true, if_true, if_false, Bool.false_eq_true]
        rw [hb0]
        clear hb0
        have hne : (cy != -1) = false := by rw [bne, ta2]; rfl
        clear ta2
        have hka : ka < 64 := by have := Ha3.out; simp [rkeyC] at this; omega
        go_enter Tryd.func27, Tryd.ntmps27
        go_wp2_with (first | (go_at_call 41; refine (rkey_any _ _ _ _ _ _ _ _ (by omega) (by omega) (by decide) (by decide)).mono ?_; rintro e w1 ⟨rfl, rfl⟩) | (go_at_call 24; refine (rclear_any _ _ _ _ _ _ _).mono ?_; rintro e w1 ⟨rfl, rfl⟩))
        exact bodyPost_ret (v := .agg #[.int .u64 cb, .int .u64 ct, .int .u64 ca, .int .i64 cp, .int .i64 ka, .bool true]) (by simp [results, Tryd.results27, go_sem, CapV.clear]) rfl ⟨rfl, (by repeat' (first | (with_reducible refine Below.setCell ?_ ?_ _) | (with_reducible refine bAlloc ?_ _) | (with_reducible refine bDrewN ?_ _) | (with_reducible refine Below.drew ?_) | (with_reducible exact Below.refl _ _) | (simp; done) | (simp; omega)))⟩
set_option maxHeartbeats 1000000 in
theorem runseal0_any (cb ct ca cp cy : Int) (cg : Bool) (kb kt ka kp ky : Int) (kg : Bool) (w : World) (h0 : 0 ≤ ka) (h1 : 0 ≤ kp) (h2 : kp ≤ 255) :
    Calls Tryd.prog 28 #[.agg #[.int .u64 cb, .int .u64 ct, .int .u64 ca, .int .i64 cp, .int .i64 cy, .bool cg], .agg #[.int .u64 kb, .int .u64 kt, .int .u64 ka, .int .i64 kp, .int .i64 ky, .bool kg]] w fun e w' => e = .returned (.agg #[.int .u64 (runsealC (⟨cb, ct, ca, cp, cy, cg⟩ : CapV) (⟨kb, kt, ka, kp, ky, kg⟩ : CapV)).base, .int .u64 (runsealC (⟨cb, ct, ca, cp, cy, cg⟩ : CapV) (⟨kb, kt, ka, kp, ky, kg⟩ : CapV)).top, .int .u64 (runsealC (⟨cb, ct, ca, cp, cy, cg⟩ : CapV) (⟨kb, kt, ka, kp, ky, kg⟩ : CapV)).at_, .int .i64 (runsealC (⟨cb, ct, ca, cp, cy, cg⟩ : CapV) (⟨kb, kt, ka, kp, ky, kg⟩ : CapV)).perms, .int .i64 (runsealC (⟨cb, ct, ca, cp, cy, cg⟩ : CapV) (⟨kb, kt, ka, kp, ky, kg⟩ : CapV)).ty, .bool (runsealC (⟨cb, ct, ca, cp, cy, cg⟩ : CapV) (⟨kb, kt, ka, kp, ky, kg⟩ : CapV)).tag]) ∧ Below w.heap.size w w' := by
  cases cg
  · skip
    have hb0 : runsealC (⟨cb, ct, ca, cp, cy, false⟩ : CapV) (⟨kb, kt, ka, kp, ky, kg⟩ : CapV) = CapV.clear (⟨cb, ct, ca, cp, cy, false⟩ : CapV) := by
      unfold runsealC
      simp only [Bool.true_and, Bool.false_and, Bool.and_false, Bool.true_and, Bool.and_true, Bool.not_true, Bool.not_false, Bool.false_or, Bool.or_false, Bool.true_or, Bool.or_true, if_true, if_false, Bool.false_eq_true]
    rw [hb0]
    clear hb0
    go_enter Tryd.func28, Tryd.ntmps28
    go_wp2_with (first | (go_at_call 41; refine (rkey_any _ _ _ _ _ _ _ _ (by omega) (by omega) (by decide) (by decide)).mono ?_; rintro e w1 ⟨rfl, rfl⟩) | (go_at_call 24; refine (rclear_any _ _ _ _ _ _ _).mono ?_; rintro e w1 ⟨rfl, rfl⟩))
    exact bodyPost_ret (v := .agg #[.int .u64 cb, .int .u64 ct, .int .u64 ca, .int .i64 cp, .int .i64 cy, .bool false]) (by simp [results, Tryd.results28, go_sem, CapV.clear]) rfl ⟨rfl, (by repeat' (first | (with_reducible refine Below.setCell ?_ ?_ _) | (with_reducible refine bAlloc ?_ _) | (with_reducible refine bDrewN ?_ _) | (with_reducible refine Below.drew ?_) | (with_reducible exact Below.refl _ _) | (simp; done) | (simp; omega)))⟩
  · skip
    cases ta2 : (cy == -1)
    · have Ha2 := Lib.hid ta2
      cases ta3 : rkeyC (⟨kb, kt, ka, kp, ky, kg⟩ : CapV) 64
      · have Ha3 := Lib.hid ta3
        have hb0 : runsealC (⟨cb, ct, ca, cp, cy, true⟩ : CapV) (⟨kb, kt, ka, kp, ky, kg⟩ : CapV) = CapV.clear (⟨cb, ct, ca, cp, cy, true⟩ : CapV) := by
          unfold runsealC
          simp only [Bool.true_and, Ha2.out, Ha3.out, Bool.false_and, Bool.and_false, Bool.true_and, Bool.and_true, Bool.not_true, Bool.not_false, Bool.false_or, Bool.or_false, Bool.true_or, Bool.or_true, if_true, if_false, Bool.false_eq_true]
        rw [hb0]
        clear hb0
        have hne : (cy == -1) = false := ta2
        go_enter Tryd.func28, Tryd.ntmps28
        go_wp2_with (first | (go_at_call 41; refine (rkey_any _ _ _ _ _ _ _ _ (by omega) (by omega) (by decide) (by decide)).mono ?_; rintro e w1 ⟨rfl, rfl⟩) | (go_at_call 24; refine (rclear_any _ _ _ _ _ _ _).mono ?_; rintro e w1 ⟨rfl, rfl⟩))
        exact bodyPost_ret (v := .agg #[.int .u64 cb, .int .u64 ct, .int .u64 ca, .int .i64 cp, .int .i64 cy, .bool false]) (by simp [results, Tryd.results28, go_sem, CapV.clear]) rfl ⟨rfl, (by repeat' (first | (with_reducible refine Below.setCell ?_ ?_ _) | (with_reducible refine bAlloc ?_ _) | (with_reducible refine bDrewN ?_ _) | (with_reducible refine Below.drew ?_) | (with_reducible exact Below.refl _ _) | (simp; done) | (simp; omega)))⟩
      · have Ha3 := Lib.hid ta3
        cases ta4 : (ka == cy)
        · have Ha4 := Lib.hid ta4
          have hb0 : runsealC (⟨cb, ct, ca, cp, cy, true⟩ : CapV) (⟨kb, kt, ka, kp, ky, kg⟩ : CapV) = CapV.clear (⟨cb, ct, ca, cp, cy, true⟩ : CapV) := by
            unfold runsealC
            simp only [Bool.true_and, Ha2.out, Ha3.out, Ha4.out, Bool.false_and, Bool.and_false, Bool.true_and, Bool.and_true, Bool.not_true, Bool.not_false, Bool.false_or, Bool.or_false, Bool.true_or, Bool.or_true, if_true, if_false, Bool.false_eq_true]
          rw [hb0]
          clear hb0
          have hne : (cy == -1) = false := ta2
          have hka : ka < 64 := by have := Ha3.out; simp [rkeyC] at this; omega
          have hne4 : (ka != cy) = true := by rw [bne, ta4]; rfl
          clear ta4
          go_enter Tryd.func28, Tryd.ntmps28
          go_wp2_with (first | (go_at_call 41; refine (rkey_any _ _ _ _ _ _ _ _ (by omega) (by omega) (by decide) (by decide)).mono ?_; rintro e w1 ⟨rfl, rfl⟩) | (go_at_call 24; refine (rclear_any _ _ _ _ _ _ _).mono ?_; rintro e w1 ⟨rfl, rfl⟩))
          exact bodyPost_ret (v := .agg #[.int .u64 cb, .int .u64 ct, .int .u64 ca, .int .i64 cp, .int .i64 cy, .bool false]) (by simp [results, Tryd.results28, go_sem, CapV.clear]) rfl ⟨rfl, (by repeat' (first | (with_reducible refine Below.setCell ?_ ?_ _) | (with_reducible refine bAlloc ?_ _) | (with_reducible refine bDrewN ?_ _) | (with_reducible refine Below.drew ?_) | (with_reducible exact Below.refl _ _) | (simp; done) | (simp; omega)))⟩
        · have Ha4 := Lib.hid ta4
          have hb0 : runsealC (⟨cb, ct, ca, cp, cy, true⟩ : CapV) (⟨kb, kt, ka, kp, ky, kg⟩ : CapV) = (⟨cb, ct, ca, cp, -1, true⟩ : CapV) := by
            unfold runsealC
            simp only [Bool.true_and, Ha2.out, Ha3.out, Ha4.out, Bool.false_and, Bool.and_false, Bool.true_and, Bool.and_true, Bool.not_true, Bool.not_false, Bool.false_or, Bool.or_false, Bool.true_or, Bool.or_true, if_true, if_false, Bool.false_eq_true]
          rw [hb0]
          clear hb0
          have hne : (cy == -1) = false := ta2
          have hka : ka < 64 := by have := Ha3.out; simp [rkeyC] at this; omega
          have hne4 : (ka != cy) = false := by rw [bne, ta4]; rfl
          clear ta4
          go_enter Tryd.func28, Tryd.ntmps28
          go_wp2_with (first | (go_at_call 41; refine (rkey_any _ _ _ _ _ _ _ _ (by omega) (by omega) (by decide) (by decide)).mono ?_; rintro e w1 ⟨rfl, rfl⟩) | (go_at_call 24; refine (rclear_any _ _ _ _ _ _ _).mono ?_; rintro e w1 ⟨rfl, rfl⟩))
          exact bodyPost_ret (v := .agg #[.int .u64 cb, .int .u64 ct, .int .u64 ca, .int .i64 cp, .int .i64 (-1), .bool true]) (by simp [results, Tryd.results28, go_sem, CapV.clear]) rfl ⟨rfl, (by repeat' (first | (with_reducible refine Below.setCell ?_ ?_ _) | (with_reducible refine bAlloc ?_ _) | (with_reducible refine bDrewN ?_ _) | (with_reducible refine Below.drew ?_) | (with_reducible exact Below.refl _ _) | (simp; done) | (simp; omega)))⟩
    · have Ha2 := Lib.hid ta2
      have hb0 : runsealC (⟨cb, ct, ca, cp, cy, true⟩ : CapV) (⟨kb, kt, ka, kp, ky, kg⟩ : CapV) = CapV.clear (⟨cb, ct, ca, cp, cy, true⟩ : CapV) := by
        unfold runsealC
        simp only [Bool.true_and, Ha2.out, Bool.false_and, Bool.and_false, Bool.true_and, Bool.and_true, Bool.not_true, Bool.not_false, Bool.false_or, Bool.or_false, Bool.true_or, Bool.or_true, if_true, if_false, Bool.false_eq_true]
      rw [hb0]
      clear hb0
      have hne : (cy == -1) = true := ta2
      go_enter Tryd.func28, Tryd.ntmps28
      go_wp2_with (first | (go_at_call 41; refine (rkey_any _ _ _ _ _ _ _ _ (by omega) (by omega) (by decide) (by decide)).mono ?_; rintro e w1 ⟨rfl, rfl⟩) | (go_at_call 24; refine (rclear_any _ _ _ _ _ _ _).mono ?_; rintro e w1 ⟨rfl, rfl⟩))
      exact bodyPost_ret (v := .agg #[.int .u64 cb, .int .u64 ct, .int .u64 ca, .int .i64 cp, .int .i64 cy, .bool false]) (by simp [results, Tryd.results28, go_sem, CapV.clear]) rfl ⟨rfl, (by repeat' (first | (with_reducible refine Below.setCell ?_ ?_ _) | (with_reducible refine bAlloc ?_ _) | (with_reducible refine bDrewN ?_ _) | (with_reducible refine Below.drew ?_) | (with_reducible exact Below.refl _ _) | (simp; done) | (simp; omega)))⟩
set_option maxHeartbeats 1000000 in
theorem rcheck0_any (cb ct ca cp cy : Int) (cg : Bool) (n p : Int) (w : World) (h1 : 0 ≤ ca) (h4 : ct < 18446744073709551616) (h3 : 0 ≤ n) :
    Calls Tryd.prog 32 #[.agg #[.int .u64 cb, .int .u64 ct, .int .u64 ca, .int .i64 cp, .int .i64 cy, .bool cg], .int .u64 n, .int .i64 p] w fun e w' => e = .returned (.int .i64 (rcheckC (⟨cb, ct, ca, cp, cy, cg⟩ : CapV) n p)) ∧ Below w.heap.size w w' := by
  cases cg
  · skip
    have hb0 : rcheckC (⟨cb, ct, ca, cp, cy, false⟩ : CapV) n p = 20 := by simp only [rcheckC, Bool.false_and, Bool.and_false, Bool.true_and, Bool.and_true, Bool.not_true, Bool.not_false, Bool.false_or, Bool.or_false, Bool.true_or, Bool.or_true, if_true, if_false, Bool.false_eq_true]
    rw [hb0]
    clear hb0
    go_enter Tryd.func32, Tryd.ntmps32
    go_wp2_with (go_at_call 38; refine (inside_any _ _ _ _ _ _ _ _ h1 h4 h3).mono ?_; rintro e w1 ⟨rfl, rfl⟩)
    go_ret
    exact ⟨rfl, (by repeat' (first | (with_reducible refine Below.setCell ?_ ?_ _) | (with_reducible refine bAlloc ?_ _) | (with_reducible refine bDrewN ?_ _) | (with_reducible refine Below.drew ?_) | (with_reducible exact Below.refl _ _) | (simp; done) | (simp; omega)))⟩
  · skip
    cases ta2 : (cy == -1)
    · have Ha2 := Lib.hid ta2
      have hb0 : rcheckC (⟨cb, ct, ca, cp, cy, true⟩ : CapV) n p = 21 := by simp only [rcheckC, Ha2.out, Bool.false_and, Bool.and_false, Bool.true_and, Bool.and_true, Bool.not_true, Bool.not_false, Bool.false_or, Bool.or_false, Bool.true_or, Bool.or_true, if_true, if_false, Bool.false_eq_true]
      rw [hb0]
      clear hb0
      have hne : (cy != -1) = true := by rw [bne, ta2]; rfl
      clear ta2
      go_enter Tryd.func32, Tryd.ntmps32
      go_wp2_with (go_at_call 38; refine (inside_any _ _ _ _ _ _ _ _ h1 h4 h3).mono ?_; rintro e w1 ⟨rfl, rfl⟩)
      go_ret
      exact ⟨rfl, (by repeat' (first | (with_reducible refine Below.setCell ?_ ?_ _) | (with_reducible refine bAlloc ?_ _) | (with_reducible refine bDrewN ?_ _) | (with_reducible refine Below.drew ?_) | (with_reducible exact Below.refl _ _) | (simp; done) | (simp; omega)))⟩
    · have Ha2 := Lib.hid ta2
      cases ta3 : (bits .and .i64 cp p == p)
      · have Ha3 := Lib.hid ta3
        have hb0 : rcheckC (⟨cb, ct, ca, cp, cy, true⟩ : CapV) n p = 22 := by simp only [rcheckC, Ha2.out, Ha3.out, Bool.false_and, Bool.and_false, Bool.true_and, Bool.and_true, Bool.not_true, Bool.not_false, Bool.false_or, Bool.or_false, Bool.true_or, Bool.or_true, if_true, if_false, Bool.false_eq_true]
        rw [hb0]
        clear hb0
        have hne : (cy != -1) = false := by rw [bne, ta2]; rfl
        clear ta2
        have hne3 : (bits .and .i64 cp p != p) = true := by rw [bne, ta3]; rfl
        clear ta3
        go_enter Tryd.func32, Tryd.ntmps32
        go_wp2_with (go_at_call 38; refine (inside_any _ _ _ _ _ _ _ _ h1 h4 h3).mono ?_; rintro e w1 ⟨rfl, rfl⟩)
        go_ret
        exact ⟨rfl, (by repeat' (first | (with_reducible refine Below.setCell ?_ ?_ _) | (with_reducible refine bAlloc ?_ _) | (with_reducible refine bDrewN ?_ _) | (with_reducible refine Below.drew ?_) | (with_reducible exact Below.refl _ _) | (simp; done) | (simp; omega)))⟩
      · have Ha3 := Lib.hid ta3
        cases ta4 : hasC (⟨cb, ct, ca, cp, cy, true⟩ : CapV) n
        · have Ha4 := Lib.hid ta4
          have hb0 : rcheckC (⟨cb, ct, ca, cp, cy, true⟩ : CapV) n p = 23 := by simp only [rcheckC, Ha2.out, Ha3.out, Ha4.out, Bool.false_and, Bool.and_false, Bool.true_and, Bool.and_true, Bool.not_true, Bool.not_false, Bool.false_or, Bool.or_false, Bool.true_or, Bool.or_true, if_true, if_false, Bool.false_eq_true]
          rw [hb0]
          clear hb0
          have hne : (cy != -1) = false := by rw [bne, ta2]; rfl
          clear ta2
          have hne3 : (bits .and .i64 cp p != p) = false := by rw [bne, ta3]; rfl
          clear ta3
          go_enter Tryd.func32, Tryd.ntmps32
          go_wp2_with (go_at_call 38; refine (inside_any _ _ _ _ _ _ _ _ h1 h4 h3).mono ?_; rintro e w1 ⟨rfl, rfl⟩)
          go_ret
          exact ⟨rfl, (by repeat' (first | (with_reducible refine Below.setCell ?_ ?_ _) | (with_reducible refine bAlloc ?_ _) | (with_reducible refine bDrewN ?_ _) | (with_reducible refine Below.drew ?_) | (with_reducible exact Below.refl _ _) | (simp; done) | (simp; omega)))⟩
        · have Ha4 := Lib.hid ta4
          have hb0 : rcheckC (⟨cb, ct, ca, cp, cy, true⟩ : CapV) n p = 0 := by simp only [rcheckC, Ha2.out, Ha3.out, Ha4.out, Bool.false_and, Bool.and_false, Bool.true_and, Bool.and_true, Bool.not_true, Bool.not_false, Bool.false_or, Bool.or_false, Bool.true_or, Bool.or_true, if_true, if_false, Bool.false_eq_true]
          rw [hb0]
          clear hb0
          have hne : (cy != -1) = false := by rw [bne, ta2]; rfl
          clear ta2
          have hne3 : (bits .and .i64 cp p != p) = false := by rw [bne, ta3]; rfl
          clear ta3
          go_enter Tryd.func32, Tryd.ntmps32
          go_wp2_with (go_at_call 38; refine (inside_any _ _ _ _ _ _ _ _ h1 h4 h3).mono ?_; rintro e w1 ⟨rfl, rfl⟩)
          go_ret
          exact ⟨rfl, (by repeat' (first | (with_reducible refine Below.setCell ?_ ?_ _) | (with_reducible refine bAlloc ?_ _) | (with_reducible refine bDrewN ?_ _) | (with_reducible refine Below.drew ?_) | (with_reducible exact Below.refl _ _) | (simp; done) | (simp; omega)))⟩
set_option maxHeartbeats 1000000 in
theorem rwithin0_any (cb ct ca cp cy : Int) (cg : Bool) (db dt da dp dy : Int) (dg : Bool) (w : World) (h1 : 0 ≤ cp) (h2 : cp ≤ 255) (h3 : 0 ≤ dp) (h4 : dp ≤ 255) :
    Calls Tryd.prog 33 #[.agg #[.int .u64 cb, .int .u64 ct, .int .u64 ca, .int .i64 cp, .int .i64 cy, .bool cg], .agg #[.int .u64 db, .int .u64 dt, .int .u64 da, .int .i64 dp, .int .i64 dy, .bool dg]] w fun e w' => e = .returned (.bool (rwithinC (⟨cb, ct, ca, cp, cy, cg⟩ : CapV) (⟨db, dt, da, dp, dy, dg⟩ : CapV))) ∧ Below w.heap.size w w' := by
  cases cg
  · skip
    have hb0 : rwithinC (⟨cb, ct, ca, cp, cy, false⟩ : CapV) (⟨db, dt, da, dp, dy, dg⟩ : CapV) = true := by simp only [rwithinC, Bool.false_and, Bool.and_false, Bool.true_and, Bool.and_true, Bool.not_true, Bool.not_false, Bool.false_or, Bool.or_false, Bool.true_or, Bool.or_true, if_true, if_false, Bool.false_eq_true]
    rw [hb0]
    clear hb0
    go_enter Tryd.func33, Tryd.ntmps33
    go_wp2
    go_ret
    exact ⟨rfl, (by repeat' (first | (with_reducible refine Below.setCell ?_ ?_ _) | (with_reducible refine bAlloc ?_ _) | (with_reducible refine bDrewN ?_ _) | (with_reducible refine Below.drew ?_) | (with_reducible exact Below.refl _ _) | (simp; done) | (simp; omega)))⟩
  · skip
    cases dg
    · skip
      have hb0 : rwithinC (⟨cb, ct, ca, cp, cy, true⟩ : CapV) (⟨db, dt, da, dp, dy, false⟩ : CapV) = false := by simp only [rwithinC, Bool.false_and, Bool.and_false, Bool.true_and, Bool.and_true, Bool.not_true, Bool.not_false, Bool.false_or, Bool.or_false, Bool.true_or, Bool.or_true, if_true, if_false, Bool.false_eq_true]
      rw [hb0]
      clear hb0
      go_enter Tryd.func33, Tryd.ntmps33
      go_wp2_with fail
      go_quiet ((go_at_call 39; exact Calls.quiet_of_same (both_same cp dp _ (by omega) (by omega) (by omega) (by omega))))
      go_wp2
      go_ret
      exact ⟨rfl, (by repeat' (first | (with_reducible refine Below.setCell ?_ ?_ _) | (with_reducible refine bAlloc ?_ _) | (with_reducible refine bDrewN ?_ _) | (with_reducible refine Below.drew ?_) | (with_reducible exact Below.refl _ _) | (simp; done) | (simp; omega)))⟩
    · skip
      cases ta3 : (cy == dy)
      · have Ha3 := Lib.hid ta3
        have hb0 : rwithinC (⟨cb, ct, ca, cp, cy, true⟩ : CapV) (⟨db, dt, da, dp, dy, true⟩ : CapV) = false := by simp only [rwithinC, Ha3.out, Bool.false_and, Bool.and_false, Bool.true_and, Bool.and_true, Bool.not_true, Bool.not_false, Bool.false_or, Bool.or_false, Bool.true_or, Bool.or_true, if_true, if_false, Bool.false_eq_true]
        rw [hb0]
        clear hb0
        have hne : (cy != dy) = true := by rw [bne, ta3]; rfl
        clear ta3
        go_enter Tryd.func33, Tryd.ntmps33
        go_wp2_with fail
        go_quiet ((go_at_call 39; exact Calls.quiet_of_same (both_same cp dp _ (by omega) (by omega) (by omega) (by omega))))
        go_wp2
        go_ret
        exact ⟨rfl, (by repeat' (first | (with_reducible refine Below.setCell ?_ ?_ _) | (with_reducible refine bAlloc ?_ _) | (with_reducible refine bDrewN ?_ _) | (with_reducible refine Below.drew ?_) | (with_reducible exact Below.refl _ _) | (simp; done) | (simp; omega)))⟩
      · have Ha3 := Lib.hid ta3
        cases ta4 : (((cp.toNat &&& dp.toNat : Nat) : Int) == cp)
        · have Ha4 := Lib.hid ta4
          have hb0 : rwithinC (⟨cb, ct, ca, cp, cy, true⟩ : CapV) (⟨db, dt, da, dp, dy, true⟩ : CapV) = false := by simp only [rwithinC, Ha3.out, Ha4.out, Bool.false_and, Bool.and_false, Bool.true_and, Bool.and_true, Bool.not_true, Bool.not_false, Bool.false_or, Bool.or_false, Bool.true_or, Bool.or_true, if_true, if_false, Bool.false_eq_true]
          rw [hb0]
          clear hb0
          have hne : (cy != dy) = false := by rw [bne, ta3]; rfl
          clear ta3
          have hne4 : (((cp.toNat &&& dp.toNat : Nat) : Int) != cp) = true := by rw [bne, ta4]; rfl
          clear ta4
          go_enter Tryd.func33, Tryd.ntmps33
          go_wp2_with fail
          go_quiet ((go_at_call 39; exact Calls.quiet_of_same (both_same cp dp _ (by omega) (by omega) (by omega) (by omega))))
          go_wp2
          go_ret
          exact ⟨rfl, (by repeat' (first | (with_reducible refine Below.setCell ?_ ?_ _) | (with_reducible refine bAlloc ?_ _) | (with_reducible refine bDrewN ?_ _) | (with_reducible refine Below.drew ?_) | (with_reducible exact Below.refl _ _) | (simp; done) | (simp; omega)))⟩
        · have Ha4 := Lib.hid ta4
          cases ta5 : decide (ct ≤ cb)
          · have Ha5 := Lib.hid ta5
            cases ta6 : decide (db ≤ cb)
            · have Ha6 := Lib.hid ta6
              have hb0 : rwithinC (⟨cb, ct, ca, cp, cy, true⟩ : CapV) (⟨db, dt, da, dp, dy, true⟩ : CapV) = false := by simp only [rwithinC, Ha3.out, Ha4.out, Ha5.out, Ha6.out, Bool.false_and, Bool.and_false, Bool.true_and, Bool.and_true, Bool.not_true, Bool.not_false, Bool.false_or, Bool.or_false, Bool.true_or, Bool.or_true, if_true, if_false, Bool.false_eq_true]
              rw [hb0]
              clear hb0
              have hne : (cy != dy) = false := by rw [bne, ta3]; rfl
              clear ta3
              have hne4 : (((cp.toNat &&& dp.toNat : Nat) : Int) != cp) = false := by rw [bne, ta4]; rfl
              clear ta4
              go_enter Tryd.func33, Tryd.ntmps33
              go_wp2_with fail
              go_quiet ((go_at_call 39; exact Calls.quiet_of_same (both_same cp dp _ (by omega) (by omega) (by omega) (by omega))))
              go_wp2
              go_ret
              exact ⟨rfl, (by repeat' (first | (with_reducible refine Below.setCell ?_ ?_ _) | (with_reducible refine bAlloc ?_ _) | (with_reducible refine bDrewN ?_ _) | (with_reducible refine Below.drew ?_) | (with_reducible exact Below.refl _ _) | (simp; done) | (simp; omega)))⟩
            · have Ha6 := Lib.hid ta6
              cases ta7 : decide (ct ≤ dt)
              · have Ha7 := Lib.hid ta7
                have hb0 : rwithinC (⟨cb, ct, ca, cp, cy, true⟩ : CapV) (⟨db, dt, da, dp, dy, true⟩ : CapV) = false := by simp only [rwithinC, Ha3.out, Ha4.out, Ha5.out, Ha6.out, Ha7.out, Bool.false_and, Bool.and_false, Bool.true_and, Bool.and_true, Bool.not_true, Bool.not_false, Bool.false_or, Bool.or_false, Bool.true_or, Bool.or_true, if_true, if_false, Bool.false_eq_true]
                rw [hb0]
                clear hb0
                have hne : (cy != dy) = false := by rw [bne, ta3]; rfl
                clear ta3
                have hne4 : (((cp.toNat &&& dp.toNat : Nat) : Int) != cp) = false := by rw [bne, ta4]; rfl
                clear ta4
                go_enter Tryd.func33, Tryd.ntmps33
                go_wp2_with fail
                go_quiet ((go_at_call 39; exact Calls.quiet_of_same (both_same cp dp _ (by omega) (by omega) (by omega) (by omega))))
                go_wp2
                go_ret
                exact ⟨rfl, (by repeat' (first | (with_reducible refine Below.setCell ?_ ?_ _) | (with_reducible refine bAlloc ?_ _) | (with_reducible refine bDrewN ?_ _) | (with_reducible refine Below.drew ?_) | (with_reducible exact Below.refl _ _) | (simp; done) | (simp; omega)))⟩
              · have Ha7 := Lib.hid ta7
                have hb0 : rwithinC (⟨cb, ct, ca, cp, cy, true⟩ : CapV) (⟨db, dt, da, dp, dy, true⟩ : CapV) = true := by simp only [rwithinC, Ha3.out, Ha4.out, Ha5.out, Ha6.out, Ha7.out, Bool.false_and, Bool.and_false, Bool.true_and, Bool.and_true, Bool.not_true, Bool.not_false, Bool.false_or, Bool.or_false, Bool.true_or, Bool.or_true, if_true, if_false, Bool.false_eq_true]
                rw [hb0]
                clear hb0
                have hne : (cy != dy) = false := by rw [bne, ta3]; rfl
                clear ta3
                have hne4 : (((cp.toNat &&& dp.toNat : Nat) : Int) != cp) = false := by rw [bne, ta4]; rfl
                clear ta4
                go_enter Tryd.func33, Tryd.ntmps33
                go_wp2_with fail
                go_quiet ((go_at_call 39; exact Calls.quiet_of_same (both_same cp dp _ (by omega) (by omega) (by omega) (by omega))))
                go_wp2
                go_ret
                exact ⟨rfl, (by repeat' (first | (with_reducible refine Below.setCell ?_ ?_ _) | (with_reducible refine bAlloc ?_ _) | (with_reducible refine bDrewN ?_ _) | (with_reducible refine Below.drew ?_) | (with_reducible exact Below.refl _ _) | (simp; done) | (simp; omega)))⟩
          · have Ha5 := Lib.hid ta5
            have hb0 : rwithinC (⟨cb, ct, ca, cp, cy, true⟩ : CapV) (⟨db, dt, da, dp, dy, true⟩ : CapV) = true := by simp only [rwithinC, Ha3.out, Ha4.out, Ha5.out, Bool.false_and, Bool.and_false, Bool.true_and, Bool.and_true, Bool.not_true, Bool.not_false, Bool.false_or, Bool.or_false, Bool.true_or, Bool.or_true, if_true, if_false, Bool.false_eq_true]
            rw [hb0]
            clear hb0
            have hne : (cy != dy) = false := by rw [bne, ta3]; rfl
            clear ta3
            have hne4 : (((cp.toNat &&& dp.toNat : Nat) : Int) != cp) = false := by rw [bne, ta4]; rfl
            clear ta4
            go_enter Tryd.func33, Tryd.ntmps33
            go_wp2_with fail
            go_quiet ((go_at_call 39; exact Calls.quiet_of_same (both_same cp dp _ (by omega) (by omega) (by omega) (by omega))))
            go_wp2
            go_ret
            exact ⟨rfl, (by repeat' (first | (with_reducible refine Below.setCell ?_ ?_ _) | (with_reducible refine bAlloc ?_ _) | (with_reducible refine bDrewN ?_ _) | (with_reducible refine Below.drew ?_) | (with_reducible exact Below.refl _ _) | (simp; done) | (simp; omega)))⟩
end Go.Proofs.YtoijhhacgafblaaDoor
