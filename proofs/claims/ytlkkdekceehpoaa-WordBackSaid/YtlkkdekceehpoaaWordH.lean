/- The walks of the laws of words that take them apart. -/
import Derived.Test.YtlkkdekceehpoaaWordF
namespace Go.Proofs.Ytlkkdekceehpoaa
set_option linter.unusedSimpArgs false
set_option linter.unusedVariables false
open Go.ChangeShapes Go.WideShapes Go.ChangeAt Go.RowKit

theorem ofN_little (w n : Nat) : ofN (littleN w n) = w % 2 ^ (8 * n) := by
  induction n with
  | zero => simp [littleN, ofN, Nat.mod_one]
  | succ n ih =>
    rw [littleN_snoc, ofN_snoc, littleN_length, ih, show 8 * (n + 1) = 8 * n + 8 by omega]
    unfold byteN
    rw [Nat.pow_add, Nat.mod_mul]
theorem of_little (w : Int) (h0 : 0 ≤ w) (h1 : w < 18446744073709551616) : ((ofB (littleZ w 8) : Nat) : Int) = w := by
  obtain ⟨w, rfl⟩ := Int.eq_ofNat_of_zero_le h0
  have e : littleZ (w : Int) 8 = littleN w 8 := by unfold littleZ; rw [if_neg (by omega)]; rfl
  have e2 : (littleN w 8).take 8 = littleN w 8 := List.take_of_length_le (by rw [littleN_length]; decide)
  unfold ofB
  rw [e, e2, ofN_little]
  omega
theorem sgN_mod (x m : Nat) (hm : 1 ≤ m) (h : m ≤ 64) : sgN x m % 2 ^ m = x % 2 ^ m := by
  apply Nat.eq_of_testBit_eq
  intro i
  rw [Nat.testBit_mod_two_pow, Nat.testBit_mod_two_pow]
  by_cases hi : i < m
  · rw [sgN_bit x m i hm h (by omega), show min i (m - 1) = i by omega]
  · simp [hi]
theorem sgN_twice (x m : Nat) (hm : 1 ≤ m) (h : m ≤ 64) : sgN (sgN x m) m = sgN x m := by
  have e := sgN_mod x m hm h
  unfold sgN at e ⊢
  rw [e]
theorem shl_mod (x y k m : Nat) (h : k + m = 64) (e : x % 2 ^ m = y % 2 ^ m) : IntKind.u64.wrap ((x : Int) * 2 ^ k) = IntKind.u64.wrap ((y : Int) * 2 ^ k) := by
  have f : ∀ z : Nat, IntKind.u64.wrap ((z : Int) * 2 ^ k) = ((2 ^ k * (z % 2 ^ m) : Nat) : Int) := by
    intro z
    rw [IntKind.wrap_u64, pow_cast, ← Int.natCast_mul, Nat.mul_comm, ← Nat.mul_mod_mul_left, split64 k m h]
    omega
  rw [f, f, e]
theorem wrap_wrap (y : Nat) (h : y < 18446744073709551616) : IntKind.u64.wrap (wrap64 (y : Int)) = (y : Int) := by
  rw [IntKind.wrap_u64]; unfold wrap64; omega
theorem back_math (x n : Int) (h0 : 0 ≤ x) (h1 : x < 18446744073709551616) (hn : 1 ≤ n) (hm : n ≤ 63) :
    (bits .or .u64 (IntKind.u64.wrap (bitsZ x n (64 - n) * 2 ^ n.toNat)) (bitsZ x 0 n) == x) = true ∧
      (IntKind.u64.wrap (signZ (bitsZ x 0 n) n * 2 ^ (64 - n).toNat) == IntKind.u64.wrap (x * 2 ^ (64 - n).toNat)) = true ∧
      fitsB (wrap64 (signZ (bitsZ x 0 n) n)) n = true := by
  obtain ⟨x, rfl⟩ := Int.eq_ofNat_of_zero_le h0
  obtain ⟨n, rfl⟩ := Int.eq_ofNat_of_zero_le (show 0 ≤ n by omega)
  obtain ⟨k, hk⟩ : ∃ k, k + n = 64 := ⟨64 - n, by omega⟩
  have ek : (64 - (n : Int)).toNat = k := by omega
  have e1 : bitsZ x n (64 - n) = ((x / 2 ^ n % 2 ^ k : Nat) : Int) := by unfold bitsZ bitsN; rw [if_neg (by omega), ek]; rfl
  have e2 : bitsZ x 0 n = ((x % 2 ^ n : Nat) : Int) := by
    unfold bitsZ bitsN; rw [if_neg (by omega), show (0 : Int).toNat = 0 from rfl, Nat.pow_zero, Nat.div_one]; rfl
  have e3 : signZ ((x % 2 ^ n : Nat) : Int) n = ((sgN (x % 2 ^ n) n : Nat) : Int) := by unfold signZ; rw [if_neg (by omega)]; rfl
  have hs := split64 k n hk
  have hx : x < 2 ^ k * 2 ^ n := by omega
  have hlo : x % 2 ^ n < 2 ^ n := Nat.mod_lt _ (pow_pos' n)
  have hd : x / 2 ^ n < 2 ^ k := Nat.div_lt_of_lt_mul (by rw [Nat.mul_comm]; exact hx)
  have hsum : 2 ^ n * (x / 2 ^ n) + x % 2 ^ n = x := Nat.div_add_mod x (2 ^ n)
  rw [e1, e2, e3, ek, beq_iff_eq, beq_iff_eq]
  refine ⟨?_, ?_, ?_⟩
  · rw [Int.toNat_natCast, Nat.mod_eq_of_lt hd, pow_cast, ← Int.natCast_mul, Nat.mul_comm, wrap_nat _ (by omega), u64_or_nat _ _ (by omega) (by omega), nat_join n _ _ (by simp) hlo]
    omega
  · exact shl_mod _ _ k n hk (by rw [sgN_mod _ _ (by omega) (by omega), Nat.mod_mod])
  · have hl := sgN_lt (x % 2 ^ n) n (by omega)
    have e4 : IntKind.u64.wrap (wrap64 ((sgN (x % 2 ^ n) n : Nat) : Int)) = ((sgN (x % 2 ^ n) n : Nat) : Int) := wrap_wrap _ hl
    unfold fitsB
    rw [e4, decide_eq_true (p := 1 ≤ (n : Int) ∧ (n : Int) ≤ 64) ⟨by omega, by omega⟩, Bool.true_and, beq_iff_eq]
    unfold signZ
    rw [if_neg (by omega), Int.toNat_natCast, Int.toNat_natCast, sgN_twice _ _ (by omega) (by omega)]

theorem WordBack_walk (a0 : Int) (a1 : Int) (w0 : (Lit.int .u64 a0).wf = true) (w1 : (Lit.int .i64 a1).wf = true) (w : World) :
    Calls Try.prog 7 #[.int .u64 a0, .int .i64 a1] w fun e w' => e = .returned (.bool true) ∧ Below w.heap.size w w' := by
  have b0 := wf_u64 w0
  have B0 := Lib.hid b0
  have OL := Lib.hid (of_little a0 b0.1 b0.2)
  by_cases hg : a1 < 1 ∨ 63 < a1
  · clear w0 w1 b0
    rcases hg with h | h
    all_goals
      go_enter Try.func7, Try.ntmps7
      go_wp2_with fail
      refine (awake_any _).mono ?_; rintro e w1 ⟨rfl, hb⟩; have HB := Lib.hid hb; clear hb
      go_wp2_with fail
      refine (little_any _ _ _ B0.out.1 B0.out.2).mono ?_; rintro e w2 ⟨v, rfl, ho, hb2⟩
      obtain ⟨a, c, rfl, hlen⟩ := own_slice ho
      have HR := Lib.hid (Rd.of_own ho)
      have HB2 := Lib.hid (bTrans HB.out hb2)
      have HLEN := Lib.hid hlen
      clear ho hb2 hlen
      go_wp2_with fail
      refine (of_any _ _ _ _ _ HR.out (littleZ_lt _ _) HLEN.out).mono ?_; rintro e w' ⟨rfl, rfl⟩; rw [OL.out]
      go_wp2
      all_goals
        go_ret
        exact ⟨by simp, HB2.out⟩
  · have t1 : decide (a1 < 1) = false := by simp; omega
    have t2 : decide (63 < a1) = false := by simp; omega
    have i1 : 1 ≤ a1 := by omega
    have i2 : a1 ≤ 63 := by omega
    obtain ⟨m1, m2, m3⟩ := back_math a0 a1 b0.1 b0.2 i1 i2
    have hself : (a0 == a0) = true := beq_self_eq_true a0
    clear w0 w1 b0 hg
    go_enter Try.func7, Try.ntmps7
    go_wp2_with fail
    refine (awake_any _).mono ?_; rintro e w1 ⟨rfl, hb⟩; have HB := Lib.hid hb; clear hb
    go_wp2_with fail
    refine (little_any _ _ _ B0.out.1 B0.out.2).mono ?_; rintro e w2 ⟨v, rfl, ho, hb2⟩
    obtain ⟨a, c, rfl, hlen⟩ := own_slice ho
    have HR := Lib.hid (Rd.of_own ho)
    have HB2 := Lib.hid (bTrans HB.out hb2)
    have HLEN := Lib.hid hlen
    clear ho hb2 hlen
    go_wp2_with fail
    refine (of_any _ _ _ _ _ HR.out (littleZ_lt _ _) HLEN.out).mono ?_; rintro e w' ⟨rfl, rfl⟩; rw [OL.out]
    go_wp2_with (first
        | (go_at_call 11; refine (bits_any _ _ _ _ B0.out.1 B0.out.2).mono ?_; rintro e w' ⟨rfl, n, rfl⟩)
        | (go_at_call 12; refine (sign_any _ _ _ (bitsZ_in _ _ _).1).mono ?_; rintro e w' ⟨rfl, rfl⟩)
        | (go_at_call 13; refine (fits_any _ _ _).mono ?_; rintro e w' ⟨rfl, rfl⟩))
    go_quiet (fail)
    go_wp2
    go_ret
    exact ⟨by simp, bDrewN (bDrewN HB2.out _) _⟩
end Go.Proofs.Ytlkkdekceehpoaa
