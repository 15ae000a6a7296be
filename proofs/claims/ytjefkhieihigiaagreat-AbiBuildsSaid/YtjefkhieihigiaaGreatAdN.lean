/- The document's Need. -/
import Derived.Test.YtjefkhieihigiaaGreatAbR
namespace Go.Proofs.YtjefkhieihigiaaGreat
set_option linter.unusedVariables false
set_option linter.unusedSimpArgs false
open Go.Joins Go.ChangeShapes Go.WideShapes Go.ChangeAt Go.RowKit Go.Deep

theorem wrap_ex (x : Int) : ∃ j : Int, IntKind.i64.wrap x = x + 18446744073709551616 * j ∧ -9223372036854775808 ≤ IntKind.i64.wrap x ∧ IntKind.i64.wrap x < 9223372036854775808 := by
  refine ⟨-((x + 9223372036854775808) / 18446744073709551616), ?_, ?_, ?_⟩ <;> (rw [IntKind.wrap_i64]; omega)
set_option maxRecDepth 100000 in
set_option maxHeartbeats 4000000 in
theorem rneed_any (a1 a2 a3 : Option Addr) (c1 c2 c3 k : Nat) (l1 l2 : List (List UInt8)) (W : World) (h1 : Rd W a1 l1.length (strs l1)) (h2 : Rd W a2 l2.length (strs l2)) (hz : lensN l1 + lensN l2 ≤ 4000000000000000000) (hl1 : l1.length < 9223372036854775808) (hl2 : l2.length < 9223372036854775808) (hk : k < 9223372036854775808) :
    Calls Tryz.prog 15 #[.slice a1 l1.length c1, .slice a2 l2.length c2, .slice a3 k c3] W fun e W' => e = .returned (.int .i64 (IntKind.i64.wrap (((upN (lensN l1 + lensN l2) + ((l1.length + 1) + (l2.length + 1) + (k + 1)) * 32 : Nat) : Int)))) ∧ W = W' := by
  have HR1 := Lib.hid h1
  have HR2 := Lib.hid h2
  obtain ⟨n1, hn1⟩ : ∃ n, l1.length = n := ⟨_, rfl⟩
  obtain ⟨n2, hn2⟩ : ∃ n, l2.length = n := ⟨_, rfl⟩
  have HN1 := Lib.hid hn1
  have HN2 := Lib.hid hn2
  obtain ⟨r, hr⟩ : ∃ r, IntKind.i64.wrap (((upN (lensN l1 + lensN l2) + ((l1.length + 1) + (l2.length + 1) + (k + 1)) * 32 : Nat) : Int)) = r := ⟨_, rfl⟩
  have HRR := Lib.hid hr
  have HZ := Lib.hid hz
  rw [hr]
  rw [hn1] at hl1
  rw [hn2] at hl2
  rw [hn1, hn2]
  clear h1 h2 hn1 hn2 hr hz
  have HL1 := Lib.hid hl1
  have HL2 := Lib.hid hl2
  go_enter Tryz.func15, Tryz.ntmps15
  go_wp2_with fail
  go_loopw [7, 8] (fun v i wr => ∃ q : Nat, q ≤ n1 ∧ i = .int .i64 (q : Int) ∧ v = .int .i64 ((lensN (l1.take q) : Nat) : Int) ∧ W = wr) (fun _ i _ => n1 - (intOf i).toNat)
  case atStart => exact ⟨0, Nat.zero_le _, rfl, by first | rfl | simp [lensN_nil], rfl⟩
  case round =>
    obtain ⟨q, hq, rfl, rfl, rfl⟩ := hrel
    have hl1 := HL1.out
    have hl2 := HL2.out
    by_cases hqn : q < n1
    · have hql : q < l1.length := by rw [HN1.out]; exact hqn
      obtain ⟨g, off, hge, -, hc⟩ := HR1.out.at_ hql
      subst hge
      rw [strs_get l1 q hql] at hc
      have hnx : lensN (l1.take (q + 1)) = lensN (l1.take q) + (l1[q].length + 1) := by
        rw [List.take_succ_eq_append_getElem hql, lensN_app, lensN_cons, lensN_nil]
      have hle : lensN (l1.take q) + (l1[q].length + 1) ≤ lensN l1 := by
        rw [← hnx]
        conv => rhs; rw [← List.take_append_drop (q + 1) l1, lensN_app]
        omega
      have hz := HZ.out
      obtain ⟨s, hs⟩ : ∃ s, l1[q] = s := ⟨_, rfl⟩
      rw [hs] at hc hnx hle
      obtain ⟨y, hy⟩ : ∃ y, lensN (l1.take q) = y := ⟨_, rfl⟩
      have hyx : lensN (l1.take (q + 1)) = y + (s.length + 1) := by omega
      have hyl : y + (s.length + 1) ≤ 4000000000000000000 := by omega
      rw [hy]
      have hsz : (⟨s.toArray⟩ : ByteArray).size = s.length := mk_size s
      have e1 : IntKind.i64.wrap ((y : Int) + (s.length : Int)) = (y : Int) + (s.length : Int) := by rw [IntKind.wrap_i64]; omega
      have e2 : IntKind.i64.wrap ((y : Int) + (s.length : Int) + 1) = (y : Int) + (s.length : Int) + 1 := by rw [IntKind.wrap_i64]; omega
      have HYX := Lib.hid hyx
      have HYL := Lib.hid hyl
      have kk0 : (0 : Int) ≤ (q : Int) := by omega
      have kk1 : (q : Int) < (n1 : Int) := by omega
      have hd1 : decide ((q : Int) < (n1 : Int)) = true := decide_eq_true kk1
      clear hql hnx hs hy hyx hyl hle hz
      go_wp2_with fail
      go_roundw
      case rel => exact ⟨q + 1, by omega, by go_num, by rw [HYX.out]; have := HYL.out; first | rfl | (refine congrArg (Value.int .i64) ?_; first | (rw [IntKind.wrap_i64]; omega) | omega), trivial⟩
      case measure => simp [intOf]; omega
    · obtain rfl : q = n1 := by omega
      have htl : l1.take q = l1 := List.take_of_length_le (by rw [HN1.out]; omega)
      rw [htl]
      have hd1 : decide ((q : Int) < (q : Int)) = false := by simp
      have hd2 : decide (q < q) = false := by simp
      clear htl
      go_wp2_with fail
      go_loopw [7, 9] (fun v i wr => ∃ q : Nat, q ≤ n2 ∧ i = .int .i64 (q : Int) ∧ v = .int .i64 ((lensN l1 + lensN (l2.take q) : Nat) : Int) ∧ W = wr) (fun _ i _ => n2 - (intOf i).toNat)
      case atStart => exact ⟨0, Nat.zero_le _, rfl, by first | rfl | simp [lensN_nil], rfl⟩
      case round =>
        obtain ⟨q, hq, rfl, rfl, rfl⟩ := hrel
        have hl1 := HL1.out
        have hl2 := HL2.out
        by_cases hqn : q < n2
        · have hql : q < l2.length := by rw [HN2.out]; exact hqn
          obtain ⟨g, off, hge, -, hc⟩ := HR2.out.at_ hql
          subst hge
          rw [strs_get l2 q hql] at hc
          have hnx : lensN (l2.take (q + 1)) = lensN (l2.take q) + (l2[q].length + 1) := by
            rw [List.take_succ_eq_append_getElem hql, lensN_app, lensN_cons, lensN_nil]
          have hle : lensN (l2.take q) + (l2[q].length + 1) ≤ lensN l2 := by
            rw [← hnx]
            conv => rhs; rw [← List.take_append_drop (q + 1) l2, lensN_app]
            omega
          have hz := HZ.out
          obtain ⟨s, hs⟩ : ∃ s, l2[q] = s := ⟨_, rfl⟩
          rw [hs] at hc hnx hle
          obtain ⟨y, hy⟩ : ∃ y, lensN l1 + lensN (l2.take q) = y := ⟨_, rfl⟩
          have hyx : lensN l1 + lensN (l2.take (q + 1)) = y + (s.length + 1) := by omega
          have hyl : y + (s.length + 1) ≤ 4000000000000000000 := by omega
          rw [hy]
          have hsz : (⟨s.toArray⟩ : ByteArray).size = s.length := mk_size s
          have e1 : IntKind.i64.wrap ((y : Int) + (s.length : Int)) = (y : Int) + (s.length : Int) := by rw [IntKind.wrap_i64]; omega
          have e2 : IntKind.i64.wrap ((y : Int) + (s.length : Int) + 1) = (y : Int) + (s.length : Int) + 1 := by rw [IntKind.wrap_i64]; omega
          have HYX := Lib.hid hyx
          have HYL := Lib.hid hyl
          have kk0 : (0 : Int) ≤ (q : Int) := by omega
          have kk1 : (q : Int) < (n2 : Int) := by omega
          have hd1 : decide ((q : Int) < (n2 : Int)) = true := decide_eq_true kk1
          clear hql hnx hs hy hyx hyl hle hz
          go_wp2_with fail
          go_roundw
          case rel => exact ⟨q + 1, by omega, by go_num, by rw [HYX.out]; have := HYL.out; first | rfl | (refine congrArg (Value.int .i64) ?_; first | (rw [IntKind.wrap_i64]; omega) | omega), trivial⟩
          case measure => simp [intOf]; omega
        · obtain rfl : q = n2 := by omega
          have htl : l2.take q = l2 := List.take_of_length_le (by rw [HN2.out]; omega)
          rw [htl]
          have hd1 : decide ((q : Int) < (q : Int)) = false := by simp
          have hd2 : decide (q < q) = false := by simp
          clear htl
          obtain ⟨z, hzz⟩ : ∃ z, lensN l1 + lensN l2 = z := ⟨_, rfl⟩
          have hz := HZ.out
          have hrr := HRR.out
          rw [hzz] at hz hrr ⊢
          have HUP := Lib.hid (show upN z = (z + 31) / 32 * 32 from rfl)
          rw [HN1.out, HN2.out] at hrr
          have HZ1 := Lib.hid hz
          have HR := Lib.hid hrr
          clear hz hrr hzz HZ HRR
          go_wp2_with fail
          obtain ⟨u, hu⟩ : ∃ u, upN z = u := ⟨_, rfl⟩
          have HU := Lib.hid (show u = (z + 31) / 32 * 32 from by rw [← hu]; rfl)
          rw [hu] at HR
          clear hu HUP
          go_loopw [7] (fun v wr => ∃ m : Nat, v = .int .i64 (m : Int) ∧ z ≤ m ∧ m ≤ u ∧ W = wr) (fun v _ => u - (intOf v).toNat)
          case atStart => exact ⟨z, rfl, Nat.le_refl _, by have := HU.out; omega, rfl⟩
          case round =>
            obtain ⟨m, rfl, m1, m2, rfl⟩ := hrel
            have hz := HZ1.out
            have huu := HU.out
            by_cases hd : m % 32 = 0
            · obtain rfl : m = u := by omega
              have e1 : (m : Int).tmod 32 = 0 := by rw [Int.tmod_eq_emod_of_nonneg (by omega)]; omega
              obtain ⟨nn, hnn⟩ : ∃ nn, l1.length = nn := ⟨_, rfl⟩
              have e0 := hnn.symm.trans HN1.out
              subst e0
              obtain ⟨s1, v1⟩ : ∃ s, IntKind.i64.wrap ((nn : Int) + 1) = s := ⟨_, rfl⟩
              obtain ⟨s2, v2⟩ : ∃ s, IntKind.i64.wrap (32 * s1) = s := ⟨_, rfl⟩
              obtain ⟨s3, v3⟩ : ∃ s, IntKind.i64.wrap ((m : Int) + s2) = s := ⟨_, rfl⟩
              obtain ⟨s4, v4⟩ : ∃ s, IntKind.i64.wrap ((q : Int) + 1) = s := ⟨_, rfl⟩
              obtain ⟨s5, v5⟩ : ∃ s, IntKind.i64.wrap (32 * s4) = s := ⟨_, rfl⟩
              obtain ⟨s6, v6⟩ : ∃ s, IntKind.i64.wrap (s3 + s5) = s := ⟨_, rfl⟩
              obtain ⟨s7, v7⟩ : ∃ s, IntKind.i64.wrap ((k : Int) + 1) = s := ⟨_, rfl⟩
              obtain ⟨s8, v8⟩ : ∃ s, IntKind.i64.wrap (32 * s7) = s := ⟨_, rfl⟩
              obtain ⟨s9, v9⟩ : ∃ s, IntKind.i64.wrap (s6 + s8) = s := ⟨_, rfl⟩
              have hfin : s9 = r := by
                have hrr := HR.out
                obtain ⟨j1, w1, -, -⟩ := wrap_ex ((nn : Int) + 1)
                obtain ⟨j2, w2, -, -⟩ := wrap_ex (32 * s1)
                obtain ⟨j3, w3, -, -⟩ := wrap_ex ((m : Int) + s2)
                obtain ⟨j4, w4, -, -⟩ := wrap_ex ((q : Int) + 1)
                obtain ⟨j5, w5, -, -⟩ := wrap_ex (32 * s4)
                obtain ⟨j6, w6, -, -⟩ := wrap_ex (s3 + s5)
                obtain ⟨j7, w7, -, -⟩ := wrap_ex ((k : Int) + 1)
                obtain ⟨j8, w8, -, -⟩ := wrap_ex (32 * s7)
                obtain ⟨j9, w9, b9, c9⟩ := wrap_ex (s6 + s8)
                obtain ⟨jr, wr, br, cr⟩ := wrap_ex ((m + ((nn + 1) + (q + 1) + (k + 1)) * 32 : Nat) : Int)
                rw [v1] at w1
                rw [v2] at w2
                rw [v3] at w3
                rw [v4] at w4
                rw [v5] at w5
                rw [v6] at w6
                rw [v7] at w7
                rw [v8] at w8
                rw [v9] at w9 b9 c9
                rw [hrr] at wr br cr
                clear v1 v2 v3 v4 v5 v6 v7 v8 v9 hrr hz huu m1 m2 hd
                omega
              have HFIN := Lib.hid hfin
              clear hz huu m1 m2 hd hfin
              go_wp2_with fail
              go_ret
              exact ⟨congrArg (fun x => Ending.returned (.int .i64 x)) HFIN.out, rfl⟩
            · obtain ⟨tt, ht⟩ : ∃ tt : Nat, m % 32 = tt := ⟨_, rfl⟩
              have e1 : (m : Int).tmod 32 = (tt : Int) := by rw [Int.tmod_eq_emod_of_nonneg (by omega)]; omega
              have e2 : IntKind.i64.wrap (tt : Int) = (tt : Int) := by rw [IntKind.wrap_i64]; omega
              have e3 : ((tt : Int) == 0) = false := by simp; omega
              have e4 : ((tt : Int) != 0) = true := by simp; omega
              have e5 : IntKind.i64.wrap ((m : Int) + 1) = ((m : Int) + 1) := by rw [IntKind.wrap_i64]; omega
              have HM := Lib.hid (show m + 1 ≤ u by omega)
              have HM1 := Lib.hid m1
              clear hz huu m1 m2 hd ht
              go_wp2_with fail
              go_roundw
              case rel => exact ⟨m + 1, by go_num, by have := HM1.out; omega, HM.out, trivial⟩
              case measure => have := HM.out; simp [intOf]; omega
end Go.Proofs.YtjefkhieihigiaaGreat
