/- The walks of the laws of words that take numbers alone. -/
import Derived.Test.YtlkkdekceehpoaaWordE
namespace Go.Proofs.Ytlkkdekceehpoaa
set_option linter.unusedSimpArgs false
set_option linter.unusedVariables false
open Go.ChangeShapes Go.WideShapes Go.ChangeAt Go.RowKit

theorem wf_u64 {a : Int} (h : (Lit.int .u64 a).wf = true) : 0 ≤ a ∧ a < 18446744073709551616 := by
  simp [Lit.wf, IntKind.min, IntKind.max, IntKind.signed, IntKind.bits] at h; omega
theorem wf_i64 {a : Int} (h : (Lit.int .i64 a).wf = true) : -9223372036854775808 ≤ a ∧ a ≤ 9223372036854775807 := by
  simp [Lit.wf, IntKind.min, IntKind.max, IntKind.signed, IntKind.bits] at h; omega

theorem parts_math (x f m r : Int) (h0 : 0 ≤ x) (h1 : x < 18446744073709551616) (hf : 0 ≤ f) (hm : 1 ≤ m) (hr : 1 ≤ r) (hs : f + m + r ≤ 64) :
    (bitsZ x f (m + r) == bits .or .u64 (bitsZ x f m) (IntKind.u64.wrap (bitsZ x (f + m) r * 2 ^ m.toNat))) = true ∧
      (bitsZ (bitsZ x f (m + r)) 0 m == bitsZ x f m) = true ∧ (bitsZ (bitsZ x f (m + r)) m r == bitsZ x (f + m) r) = true := by
  obtain ⟨x, rfl⟩ := Int.eq_ofNat_of_zero_le h0
  obtain ⟨f, rfl⟩ := Int.eq_ofNat_of_zero_le hf
  obtain ⟨m, rfl⟩ := Int.eq_ofNat_of_zero_le (show 0 ≤ m by omega)
  obtain ⟨r, rfl⟩ := Int.eq_ofNat_of_zero_le (show 0 ≤ r by omega)
  have e1 : bitsZ x f (m + r) = ((x / 2 ^ f % 2 ^ (m + r) : Nat) : Int) := by unfold bitsZ bitsN; rw [if_neg (by omega)]; rfl
  have e2 : bitsZ x f m = ((x / 2 ^ f % 2 ^ m : Nat) : Int) := by unfold bitsZ bitsN; rw [if_neg (by omega)]; rfl
  have e3 : bitsZ x (f + m) r = ((x / 2 ^ f / 2 ^ m % 2 ^ r : Nat) : Int) := by
    unfold bitsZ bitsN; rw [if_neg (by omega), show ((f : Int) + m).toNat = f + m by omega, Nat.pow_add, ← Nat.div_div_eq_div_mul]; rfl
  rw [e1, e2, e3]
  generalize x / 2 ^ f = y
  have e4 : bitsZ ((y % 2 ^ (m + r) : Nat) : Int) 0 m = ((y % 2 ^ (m + r) / 2 ^ 0 % 2 ^ m : Nat) : Int) := by unfold bitsZ bitsN; rw [if_neg (by omega)]; rfl
  have e5 : bitsZ ((y % 2 ^ (m + r) : Nat) : Int) m r = ((y % 2 ^ (m + r) / 2 ^ m % 2 ^ r : Nat) : Int) := by unfold bitsZ bitsN; rw [if_neg (by omega)]; rfl
  rw [e4, e5]
  have hsum : y % 2 ^ (m + r) = y % 2 ^ m + 2 ^ m * (y / 2 ^ m % 2 ^ r) := by rw [Nat.pow_add, Nat.mod_mul]
  have hlo : y % 2 ^ m < 2 ^ m := Nat.mod_lt _ (pow_pos' m)
  have hhi : y / 2 ^ m % 2 ^ r < 2 ^ r := Nat.mod_lt _ (pow_pos' r)
  have hall : y % 2 ^ (m + r) < 2 ^ (m + r) := Nat.mod_lt _ (pow_pos' _)
  have h64 := pow_le64 (k := m + r) (by omega)
  refine ⟨?_, ?_, ?_⟩ <;> rw [beq_iff_eq]
  · have hm64 := pow_le64 (k := m) (by omega)
    rw [Int.toNat_natCast, pow_cast, ← Int.natCast_mul, Nat.mul_comm, wrap_nat _ (by omega), u64_or_nat _ _ (by omega) (by omega), Nat.or_comm, nat_join m _ _ (by simp) hlo]
    omega
  · congr 1
    rw [Nat.pow_zero, Nat.div_one, Nat.pow_add, Nat.mod_mul_right_mod]
  · congr 1
    rw [hsum, Nat.add_mul_div_left _ _ (pow_pos' m), Nat.div_eq_of_lt hlo, Nat.zero_add, Nat.mod_mod]

theorem WordParts_walk (a0 : Int) (a1 : Int) (a2 : Int) (a3 : Int) (w0 : (Lit.int .u64 a0).wf = true) (w1 : (Lit.int .i64 a1).wf = true) (w2 : (Lit.int .i64 a2).wf = true) (w3 : (Lit.int .i64 a3).wf = true) (w : World) :
    Calls Try.prog 9 #[.int .u64 a0, .int .i64 a1, .int .i64 a2, .int .i64 a3] w fun e w' => e = .returned (.bool true) ∧ Below w.heap.size w w' := by
  have b0 := wf_u64 w0
  have B0 := Lib.hid b0
  clear w0 w1 w2 w3 b0
  by_cases c1 : a1 < 0
  · have t1 : decide (a1 < 0) = true := decide_eq_true c1
    go_enter Try.func9, Try.ntmps9
    go_wp2_with (go_at_call 10; refine (awake_any _).mono ?_; rintro e w1 ⟨rfl, hb⟩; have HB := Lib.hid hb; clear hb)
    go_ret
    exact ⟨rfl, HB.out⟩
  have t1 : decide (a1 < 0) = false := decide_eq_false c1
  by_cases c2 : a2 < 1
  · have t2 : decide (a2 < 1) = true := decide_eq_true c2
    go_enter Try.func9, Try.ntmps9
    go_wp2_with (go_at_call 10; refine (awake_any _).mono ?_; rintro e w1 ⟨rfl, hb⟩; have HB := Lib.hid hb; clear hb)
    go_ret
    exact ⟨rfl, HB.out⟩
  have t2 : decide (a2 < 1) = false := decide_eq_false c2
  by_cases c3 : a3 < 1
  · have t3 : decide (a3 < 1) = true := decide_eq_true c3
    go_enter Try.func9, Try.ntmps9
    go_wp2_with (go_at_call 10; refine (awake_any _).mono ?_; rintro e w1 ⟨rfl, hb⟩; have HB := Lib.hid hb; clear hb)
    go_ret
    exact ⟨rfl, HB.out⟩
  have t3 : decide (a3 < 1) = false := decide_eq_false c3
  by_cases c4 : 63 < a1
  · have t4 : decide (63 < a1) = true := decide_eq_true c4
    go_enter Try.func9, Try.ntmps9
    go_wp2_with (go_at_call 10; refine (awake_any _).mono ?_; rintro e w1 ⟨rfl, hb⟩; have HB := Lib.hid hb; clear hb)
    go_ret
    exact ⟨rfl, HB.out⟩
  have t4 : decide (63 < a1) = false := decide_eq_false c4
  by_cases c5 : 64 < a2
  · have t5 : decide (64 < a2) = true := decide_eq_true c5
    go_enter Try.func9, Try.ntmps9
    go_wp2_with (go_at_call 10; refine (awake_any _).mono ?_; rintro e w1 ⟨rfl, hb⟩; have HB := Lib.hid hb; clear hb)
    go_ret
    exact ⟨rfl, HB.out⟩
  have t5 : decide (64 < a2) = false := decide_eq_false c5
  by_cases c6 : 64 < a3
  · have t6 : decide (64 < a3) = true := decide_eq_true c6
    go_enter Try.func9, Try.ntmps9
    go_wp2_with (go_at_call 10; refine (awake_any _).mono ?_; rintro e w1 ⟨rfl, hb⟩; have HB := Lib.hid hb; clear hb)
    go_ret
    exact ⟨rfl, HB.out⟩
  have t6 : decide (64 < a3) = false := decide_eq_false c6
  by_cases c7 : 64 < a1 + a2 + a3
  · have t7 : decide (64 < a1 + a2 + a3) = true := decide_eq_true c7
    go_enter Try.func9, Try.ntmps9
    go_wp2_with (go_at_call 10; refine (awake_any _).mono ?_; rintro e w1 ⟨rfl, hb⟩; have HB := Lib.hid hb; clear hb)
    go_ret
    exact ⟨rfl, HB.out⟩
  have t7 : decide (64 < a1 + a2 + a3) = false := decide_eq_false c7
  have i1 : 0 ≤ a1 := by omega
  have i2 : 1 ≤ a2 := by omega
  have i3 : 1 ≤ a3 := by omega
  have i4 : a1 + a2 + a3 ≤ 64 := by omega
  clear c1 c2 c3 c4 c5 c6 c7
  obtain ⟨m1, m2, m3⟩ := parts_math a0 a1 a2 a3 B0.out.1 B0.out.2 i1 i2 i3 i4
  go_enter Try.func9, Try.ntmps9
  go_wp2_with (first
    | (go_at_call 10; refine (awake_any _).mono ?_; rintro e w1 ⟨rfl, hb⟩; have HB := Lib.hid hb; clear hb)
    | (go_at_call 11; refine (bits_any _ _ _ _ (by first | exact B0.out.1 | exact (bitsZ_in _ _ _).1) (by first | exact B0.out.2 | exact (bitsZ_in _ _ _).2)).mono ?_; rintro e w' ⟨rfl, n, rfl⟩))
  go_ret
  exact ⟨rfl, bDrewN HB.out _⟩
end Go.Proofs.Ytlkkdekceehpoaa
