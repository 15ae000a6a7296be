/- The walks of more laws of words. -/
import Derived.Test.YtlkkdekceehpoaaWordF
namespace Go.Proofs.Ytlkkdekceehpoaa
set_option linter.unusedSimpArgs false
set_option linter.unusedVariables false
open Go.ChangeShapes Go.WideShapes Go.ChangeAt Go.RowKit

theorem WordBits_walk (a0 : Int) (a1 : Int) (a2 : Int) (w0 : (Lit.int .u64 a0).wf = true) (w1 : (Lit.int .i64 a1).wf = true) (w2 : (Lit.int .i64 a2).wf = true) (w : World) :
    Calls Try.prog 3 #[.int .u64 a0, .int .i64 a1, .int .i64 a2] w fun e w' => e = .returned (.bool true) ∧ Below w.heap.size w w' := by
  have b0 := wf_u64 w0
  have B0 := Lib.hid b0
  clear w0 w1 w2 b0
  go_enter Try.func3, Try.ntmps3
  go_wp2_with (first
      | (go_at_call 10; refine (awake_any _).mono ?_; rintro e w1 ⟨rfl, hb⟩; have HB := Lib.hid hb; clear hb)
      | (go_at_call 11; refine (bits_any _ _ _ _ B0.out.1 B0.out.2).mono ?_; rintro e w' ⟨rfl, n, rfl⟩)
      | (go_at_call 12; refine (sign_any _ _ _ B0.out.1).mono ?_; rintro e w' ⟨rfl, rfl⟩)
      | (go_at_call 13; refine (fits_any _ _ _).mono ?_; rintro e w' ⟨rfl, rfl⟩)
      | (go_at_call 14; refine (rbits_any _ _ _ _ B0.out.1 B0.out.2).mono ?_; rintro e w' ⟨rfl, rfl⟩)
      | (go_at_call 15; refine (rsign_any _ _ _ B0.out.1 B0.out.2).mono ?_; rintro e w' ⟨rfl, rfl⟩)
      | (go_at_call 16; refine (rfits_any _ _ _).mono ?_; rintro e w' ⟨rfl, rfl⟩))
  go_ret
  exact ⟨by simp, bDrewN HB.out _⟩

theorem WordReckons_walk (a0 : Int) (a1 : Int) (a2 : Bool) (a3 : Bool) (w0 : (Lit.int .u64 a0).wf = true) (w1 : (Lit.int .u64 a1).wf = true) (w : World) :
    Calls Try.prog 4 #[.int .u64 a0, .int .u64 a1, .bool a2, .bool a3] w fun e w' => e = .returned (.bool true) ∧ Below w.heap.size w w' := by
  have b0 := wf_u64 w0
  have B0 := Lib.hid b0
  have b1 := wf_u64 w1
  have B1 := Lib.hid b1
  clear w0 w1 b0 b1
  go_enter Try.func4, Try.ntmps4
  go_wp2_with (first
      | (go_at_call 10; refine (awake_any _).mono ?_; rintro e w1 ⟨rfl, hb⟩; have HB := Lib.hid hb; clear hb)
      | (go_at_call 17; refine (high_any _ _ _ _ _ B0.out.1 B0.out.2 B1.out.1 B1.out.2).mono ?_; rintro e w' ⟨rfl, rfl⟩)
      | (go_at_call 18; refine (quot_any _ _ _ _ B0.out.1 B0.out.2 B1.out.1 B1.out.2).mono ?_; rintro e w' ⟨rfl, n, rfl⟩)
      | (go_at_call 19; refine (rest_any _ _ _ _ B0.out.1 B0.out.2 B1.out.1 B1.out.2).mono ?_; rintro e w' ⟨rfl, n, rfl⟩)
      | (go_at_call 20; refine (rhigh_any _ _ _ _ _ B0.out.1 B0.out.2 B1.out.1 B1.out.2).mono ?_; rintro e w' ⟨rfl, rfl⟩)
      | (go_at_call 21; refine (rquot_any _ _ _ _ B0.out.1 B0.out.2 B1.out.1 B1.out.2).mono ?_; rintro e w' ⟨rfl, rfl⟩)
      | (go_at_call 22; refine (rrest_any _ _ _ _ B0.out.1 B0.out.2 B1.out.1 B1.out.2).mono ?_; rintro e w' ⟨rfl, rfl⟩))
  go_ret
  exact ⟨by simp, bDrewN HB.out _⟩

theorem low_bool (a : Int) (h0 : 0 ≤ a) (h1 : a < 18446744073709551616) : decide (wrap64 a < 0) = negB a := by
  unfold wrap64 negB; exact decide_eq_decide.2 (by omega)
theorem prod_math (a b : Int) (h0 : 0 ≤ a) (h1 : a < 18446744073709551616) (h2 : 0 ≤ b) (h3 : b < 18446744073709551616) :
    (highZ a b true false == (if negB a then IntKind.u64.wrap (highZ a b false false - b) else highZ a b false false)) = true ∧
      (highZ a 1 false false == 0) = true ∧ (highZ a 1 true true == (if negB a then 18446744073709551615 else 0)) = true := by
  have e1 := high_tf a b
  rw [beq_iff_eq, beq_iff_eq, beq_iff_eq]
  unfold highZ
  have hab : sgd 1 true = 1 := by decide
  rw [hab]
  cases hn : negB a <;> simp only [sgd_f, sgd_t, hn, if_true, if_false, Bool.false_eq_true, IntKind.wrap_u64] <;> unfold negB at hn <;> simp at hn <;> refine ⟨?_, ?_, ?_⟩ <;> first | trivial | omega | (rw [e1]; omega)
theorem WordProducts_walk (a0 : Int) (a1 : Int) (w0 : (Lit.int .u64 a0).wf = true) (w1 : (Lit.int .u64 a1).wf = true) (w : World) :
    Calls Try.prog 8 #[.int .u64 a0, .int .u64 a1] w fun e w' => e = .returned (.bool true) ∧ Below w.heap.size w w' := by
  have b0 := wf_u64 w0
  have b1 := wf_u64 w1
  have hm := prod_math a0 a1 b0.1 b0.2 b1.1 b1.2
  have hl := low_bool a0 b0.1 b0.2
  have B0 := Lib.hid b0
  have B1 := Lib.hid b1
  have C1 := Lib.hid (high_comm a1 a0 false false)
  have C2 := Lib.hid (high_comm a1 a0 true true)
  have C3 := Lib.hid (high_comm a1 a0 false true)
  clear w0 w1 b0 b1
  cases hn : negB a0 <;> rw [hn] at hm hl <;> simp only [if_true, if_false, Bool.false_eq_true] at hm
  all_goals
    obtain ⟨m1, m2, m3⟩ := hm
    clear hn
    go_enter Try.func8, Try.ntmps8
    go_wp2_with (first
        | (go_at_call 10; refine (awake_any _).mono ?_; rintro e w1 ⟨rfl, hb⟩; have HB := Lib.hid hb; clear hb)
        | (go_at_call 17; refine (high_any _ _ _ _ _ (by first | exact B0.out.1 | exact B1.out.1) (by first | exact B0.out.2 | exact B1.out.2) (by first | exact B0.out.1 | exact B1.out.1 | decide) (by first | exact B0.out.2 | exact B1.out.2 | decide)).mono ?_; rintro e w' ⟨rfl, rfl⟩; (try rw [C1.out]); (try rw [C2.out]); (try rw [C3.out])))
    go_ret
    exact ⟨by simp, HB.out⟩

/-! Quotients and what is left. -/
theorem rest_in (a b : Int) (s : Bool) (h0 : 0 ≤ a) (h1 : a < 18446744073709551616) (h2 : 0 ≤ b) (h3 : b < 18446744073709551616) : 0 ≤ restZ a b s ∧ restZ a b s < 18446744073709551616 := by
  unfold restZ
  split
  · omega
  · have hm := mag_in a s h0 h1
    have hn := mag_in b s h2 h3
    have hp : 0 < mag b s := mag_pos b s (by omega) h3
    have := Int.emod_nonneg (mag a s) (Int.ne_of_gt hp)
    have := Int.emod_lt_of_pos (mag a s) hp
    split <;> omega
/-- quotient times divisor, and the rest, are the number -/
theorem div_whole (a b : Int) (s : Bool) (h0 : 0 ≤ a) (h1 : a < 18446744073709551616) (h2 : 1 ≤ b) (h3 : b < 18446744073709551616) :
    (IntKind.u64.wrap (IntKind.u64.wrap (quotZ a b s * b) + restZ a b s) == a) = true := by
  rw [beq_iff_eq, IntKind.wrap_u64, IntKind.wrap_u64]
  cases s
  · rw [quot_f a b (by omega), rest_f a b (by omega)]
    have := Int.mul_ediv_add_emod a b
    rw [Int.mul_comm] at this
    omega
  · rw [quot_t a b (by omega), rest_t a b (by omega)]
    have e := Int.mul_ediv_add_emod (mag a true) (mag b true)
    have ea : mag a true = if negB a then 18446744073709551616 - a else a := by unfold mag negB; rw [Bool.true_and]
    have eb : mag b true = if negB b then 18446744073709551616 - b else b := by unfold mag negB; rw [Bool.true_and]
    generalize mag a true / mag b true = q at *
    generalize mag a true % mag b true = r at *
    rw [ea, eb] at e
    cases ha : negB a <;> cases hb : negB b <;> simp only [ha, hb, if_true, if_false, Bool.false_eq_true, bne_self_eq_false, Bool.true_bne, Bool.false_bne, Bool.not_false, IntKind.wrap_u64] at e ⊢
    · rw [Int.mul_comm] at e; omega
    · rw [Int.sub_mul] at e
      have e2 : (-q) % 18446744073709551616 * b = -(b * q) + 18446744073709551616 * (b * (-((-q) / 18446744073709551616))) := by
        have := Int.mul_ediv_add_emod (-q) 18446744073709551616
        rw [show (-q) % 18446744073709551616 = -q - 18446744073709551616 * ((-q) / 18446744073709551616) by omega, Int.sub_mul, Int.mul_neg, Int.mul_neg, Int.mul_comm b q, Int.neg_mul, Int.mul_assoc, Int.mul_comm b]
        omega
      rw [e2]; omega
    · have e2 : (-q) % 18446744073709551616 * b = -(b * q) + 18446744073709551616 * (b * (-((-q) / 18446744073709551616))) := by
        have := Int.mul_ediv_add_emod (-q) 18446744073709551616
        rw [show (-q) % 18446744073709551616 = -q - 18446744073709551616 * ((-q) / 18446744073709551616) by omega, Int.sub_mul, Int.mul_neg, Int.mul_neg, Int.mul_comm b q, Int.neg_mul, Int.mul_assoc, Int.mul_comm b]
        omega
      rw [e2]; omega
    · rw [Int.sub_mul, Int.mul_comm b q] at e; omega
theorem div_small (a b : Int) (h0 : 0 ≤ a) (h1 : a < 18446744073709551616) (h2 : 1 ≤ b) (h3 : b < 18446744073709551616) :
    decide (restZ a b false < b) = true ∧ decide (quotZ a b false ≤ a) = true := by
  rw [decide_eq_true_iff, decide_eq_true_iff, quot_f a b (by omega), rest_f a b (by omega)]
  exact ⟨Int.emod_lt_of_pos a (by omega), (IntWalk.tdiv_le a b h0 h2).2⟩
/-- the rest's size, and its sign -/
theorem div_signed (a b : Int) (h0 : 0 ≤ a) (h1 : a < 18446744073709551616) (h2 : 1 ≤ b) (h3 : b < 18446744073709551616) :
    ∃ m, 0 ≤ m ∧ m < mag b true ∧ m ≤ 9223372036854775807 ∧ restZ a b true = (if negB a then (-m) % 18446744073709551616 else m) := by
  have hp : 0 < mag b true := mag_pos b true h2 h3
  have hb : mag b true ≤ 9223372036854775808 := by unfold mag; rw [Bool.true_and]; split <;> simp_all <;> omega
  refine ⟨mag a true % mag b true, Int.emod_nonneg _ (Int.ne_of_gt hp), Int.emod_lt_of_pos _ hp, ?_, ?_⟩
  · have := Int.emod_lt_of_pos (mag a true) hp; omega
  · rw [rest_t a b (by omega), IntKind.wrap_u64]
theorem WordDivides_walk (a0 : Int) (a1 : Int) (a2 : Bool) (w0 : (Lit.int .u64 a0).wf = true) (w1 : (Lit.int .u64 a1).wf = true) (w : World) :
    Calls Try.prog 6 #[.int .u64 a0, .int .u64 a1, .bool a2] w fun e w' => e = .returned (.bool true) ∧ Below w.heap.size w w' := by
  have b0 := wf_u64 w0
  have b1 := wf_u64 w1
  have B0 := Lib.hid b0
  have B1 := Lib.hid b1
  by_cases hz : a1 = 0
  · subst hz
    have hq : quotZ a0 0 a2 = 18446744073709551615 := by unfold quotZ; rw [if_pos rfl]
    have hr : restZ a0 0 a2 = a0 := by unfold restZ; rw [if_pos rfl]
    have HQ := Lib.hid hq
    have HR := Lib.hid hr
    clear w0 w1 b0 b1 hq hr
    go_enter Try.func6, Try.ntmps6
    go_wp2_with (first
        | (go_at_call 10; refine (awake_any _).mono ?_; rintro e w1 ⟨rfl, hb⟩; have HB := Lib.hid hb; clear hb)
        | (go_at_call 18; refine (quot_any _ _ _ _ B0.out.1 B0.out.2 B1.out.1 B1.out.2).mono ?_; rintro e w' ⟨rfl, n, rfl⟩; rw [HQ.out])
        | (go_at_call 19; refine (rest_any _ _ _ _ B0.out.1 B0.out.2 B1.out.1 B1.out.2).mono ?_; rintro e w' ⟨rfl, n, rfl⟩; rw [HR.out]))
    go_ret
    exact ⟨by simp, bDrewN HB.out _⟩
  · have hz' : (a1 == 0) = false := by rw [beq_eq_false_iff_ne]; exact hz
    have hw := div_whole a0 a1 a2 b0.1 b0.2 (by omega) b1.2
    cases a2
    · have hs := div_small a0 a1 b0.1 b0.2 (by omega) b1.2
      obtain ⟨hs1, hs2⟩ := hs
      clear w0 w1 b0 b1 hz
      go_enter Try.func6, Try.ntmps6
      go_wp2_with (first
        | (go_at_call 10; refine (awake_any _).mono ?_; rintro e w1 ⟨rfl, hb⟩; have HB := Lib.hid hb; clear hb)
        | (go_at_call 18; refine (quot_any _ _ _ _ B0.out.1 B0.out.2 B1.out.1 B1.out.2).mono ?_; rintro e w' ⟨rfl, n, rfl⟩)
        | (go_at_call 19; refine (rest_any _ _ _ _ B0.out.1 B0.out.2 B1.out.1 B1.out.2).mono ?_; rintro e w' ⟨rfl, n, rfl⟩))
      go_ret
      exact ⟨by simp, bDrewN HB.out _⟩
    · obtain ⟨m, hm0, hm1, hm2, hr⟩ := div_signed a0 a1 b0.1 b0.2 (by omega) b1.2
      have la := low_bool a0 b0.1 b0.2
      have lb := low_bool a1 b1.1 b1.2
      have hrr := rest_in a0 a1 true b0.1 b0.2 b1.1 b1.2
      have lr := low_bool (restZ a0 a1 true) hrr.1 hrr.2
      have mb := mag_t a1 b1.1 b1.2
      have hr0 : (restZ a0 a1 true == 0) = decide (m = 0) := by
        rw [hr, Bool.eq_iff_iff, beq_iff_eq, decide_eq_true_iff]; split <;> omega
      have hneg : negB (restZ a0 a1 true) = (negB a0 && decide (m ≠ 0)) := by
        rw [hr]; unfold negB; rw [Bool.eq_iff_iff]; simp; split <;> omega
      have hx : (if negB (restZ a0 a1 true) then IntKind.u64.wrap (-(restZ a0 a1 true)) else restZ a0 a1 true) = m := by
        rw [hneg, hr, IntKind.wrap_u64]; cases negB a0 <;> by_cases hm : m = 0 <;> simp [hm] <;> omega
      rw [hneg] at lr hx
      have hlt : ∀ X, X = m → decide (X < mag a1 true) = true := fun X hX => by rw [hX]; exact decide_eq_true hm1
      clear w0 w1 b0 b1 hz hrr hm0 hm1 hm2 hr hneg
      by_cases hm : m = 0 <;> cases hna : negB a0 <;> cases hnb : negB a1 <;> simp only [hm, hna, hnb, ne_eq, not_true_eq_false, not_false_eq_true, decide_true, decide_false, Bool.and_true, Bool.and_false, Bool.true_and, Bool.false_and, if_true, if_false, Bool.false_eq_true] at hr0 lr hx mb la lb hlt
      all_goals
        rw [← mb] at hlt
        have hfin := hlt _ hx
        clear hlt hx mb hna hnb
        go_enter Try.func6, Try.ntmps6
        go_wp2_with (first
          | (go_at_call 10; refine (awake_any _).mono ?_; rintro e w1 ⟨rfl, hb⟩; have HB := Lib.hid hb; clear hb)
          | (go_at_call 18; refine (quot_any _ _ _ _ B0.out.1 B0.out.2 B1.out.1 B1.out.2).mono ?_; rintro e w' ⟨rfl, n, rfl⟩)
          | (go_at_call 19; refine (rest_any _ _ _ _ B0.out.1 B0.out.2 B1.out.1 B1.out.2).mono ?_; rintro e w' ⟨rfl, n, rfl⟩))
        all_goals
          go_ret
          exact ⟨by simp, bDrewN HB.out _⟩
end Go.Proofs.Ytlkkdekceehpoaa
