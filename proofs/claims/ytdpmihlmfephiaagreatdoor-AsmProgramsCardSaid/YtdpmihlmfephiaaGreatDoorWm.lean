/- Plain mathematics of words of 64 bits: bits, signs, products, quotients. No program is named here. -/
import Derived.WalkKit
import Derived.Laws.BitsAllLaws
namespace Go.Proofs.YtdpmihlmfephiaaGreatDoor
set_option linter.unusedVariables false
set_option linter.unusedSimpArgs false
open Go Go.RowKit

theorem ret_int {k : IntKind} {a b : Int} (h : a = b) : Ending.returned (.int k a) = .returned (.int k b) := by rw [h]
theorem ret_bool {a b : Bool} (h : a = b) : Ending.returned (.bool a) = .returned (.bool b) := by rw [h]
theorem pow_cast (k : Nat) : ((2 : Int) ^ k) = ((2 ^ k : Nat) : Int) := by simp
theorem pow_le64 {k : Nat} (h : k ≤ 64) : 2 ^ k ≤ 18446744073709551616 := Nat.pow_le_pow_right (by decide : 0 < 2) h
theorem pow_lt64 {k : Nat} (h : k < 64) : 2 ^ k ≤ 9223372036854775808 := Nat.pow_le_pow_right (by decide : 0 < 2) (by omega : k ≤ 63)
theorem pow_pos' (k : Nat) : 0 < 2 ^ k := Nat.pow_pos (by decide)
theorem split64 (k m : Nat) (h : k + m = 64) : 2 ^ k * 2 ^ m = 18446744073709551616 := by rw [← Nat.pow_add, h]
theorem half (m : Nat) (h : 1 ≤ m) : 2 ^ m = 2 * 2 ^ (m - 1) := by
  obtain ⟨n, rfl⟩ : ∃ n, m = n + 1 := ⟨m - 1, by omega⟩
  rw [Nat.pow_succ]; simp; omega

theorem low_val (k : Nat) (h : k ≤ 64) : IntKind.u64.wrap (IntKind.u64.wrap (2 ^ k) - 1) = ((2 ^ k - 1 : Nat) : Int) := by
  rw [pow_cast, IntKind.wrap_u64, IntKind.wrap_u64]
  have hp := pow_pos' k
  rcases Nat.lt_or_ge k 64 with h1 | h1
  · have := pow_lt64 h1
    omega
  · obtain rfl : k = 64 := by omega
    decide

theorem and_low (a m : Int) (h0 : 0 ≤ a) (h1 : a < 18446744073709551616) (h2 : 0 ≤ m) (h3 : m ≤ 64) :
    bits .and .u64 a (IntKind.u64.wrap (IntKind.u64.wrap (2 ^ m.toNat) - 1)) = a % 2 ^ m.toNat := by
  obtain ⟨k, rfl⟩ := Int.eq_ofNat_of_zero_le h2
  obtain ⟨x, rfl⟩ := Int.eq_ofNat_of_zero_le h0
  have hp := pow_le64 (k := k) (by omega)
  have hq := pow_pos' k
  rw [Int.toNat_natCast, low_val k (by omega), u64_and_nat x _ (by omega) (by omega), Nat.and_two_pow_sub_one_eq_mod, pow_cast]
  simp

/-! Bits. -/
def bitsN (x f m : Nat) : Nat := x / 2 ^ f % 2 ^ m
def bitsZ (x f m : Int) : Int := if f < 0 ∨ 63 < f ∨ m < 1 ∨ 64 - f < m then 0 else ((bitsN x.toNat f.toNat m.toNat : Nat) : Int)
theorem div_lt (x f : Nat) (h : x < 18446744073709551616) : x / 2 ^ f < 18446744073709551616 := Nat.lt_of_le_of_lt (Nat.div_le_self _ _) h
theorem ediv_nat (x k : Nat) : (x : Int) / 2 ^ k = ((x / 2 ^ k : Nat) : Int) := by rw [pow_cast]; simp
theorem bits_form (x f m : Int) (h0 : 0 ≤ x) (h1 : x < 18446744073709551616) (h2 : 0 ≤ f) (h3 : f ≤ 63) (h4 : 1 ≤ m) (h5 : m ≤ 64 - f) :
    bits .and .u64 (x / 2 ^ f.toNat) (IntKind.u64.wrap (IntKind.u64.wrap (2 ^ m.toNat) - 1)) = bitsZ x f m := by
  obtain ⟨x, rfl⟩ := Int.eq_ofNat_of_zero_le h0
  have := div_lt x f.toNat (by omega)
  rw [and_low _ _ (by rw [ediv_nat]; exact Int.natCast_nonneg _) (by rw [ediv_nat]; exact Int.ofNat_lt.2 this) (by omega) (by omega)]
  unfold bitsZ bitsN
  rw [if_neg (by omega), ediv_nat, pow_cast]
  simp

theorem and1 (x : Nat) (h : x < 18446744073709551616) : bits .and .u64 (x : Int) 1 = ((x % 2 : Nat) : Int) := by
  have := u64_and_nat x 1 h (by decide)
  rw [show ((1 : Nat) : Int) = 1 from rfl] at this
  rw [this, nat_mask1]
theorem bit_form (x i : Nat) (h : x < 18446744073709551616) : bits .and .u64 ((x : Int) / 2 ^ i) 1 = ((x / 2 ^ i % 2 : Nat) : Int) := by
  rw [ediv_nat, and1 _ (div_lt x i h)]
theorem or_bit (a b k : Nat) (ha : a < 2 ^ k) (hb : b < 2) (hk : k < 64) :
    bits .or .u64 (a : Int) (IntKind.u64.wrap ((b : Int) * 2 ^ k)) = ((a + 2 ^ k * b : Nat) : Int) := by
  have hp := pow_lt64 hk
  have hl : 2 ^ k * b ≤ 9223372036854775808 := Nat.le_trans (Nat.mul_le_mul_left _ (by omega : b ≤ 1)) (by omega)
  rw [pow_cast, show ((b : Int) * ((2 ^ k : Nat) : Int)) = ((2 ^ k * b : Nat) : Int) by rw [Nat.mul_comm]; simp]
  rw [IntKind.wrap_u64, show ((2 ^ k * b : Nat) : Int) % 18446744073709551616 = ((2 ^ k * b : Nat) : Int) by omega]
  rw [u64_or_nat _ _ (by omega) (by omega), Nat.or_comm, Nat.add_comm]
  exact congrArg _ (nat_join k (2 ^ k * b) a (by simp) ha)
theorem mod_step (y k : Nat) : y % 2 ^ k + 2 ^ k * (y / 2 ^ k % 2) = y % 2 ^ (k + 1) := (Nat.mod_pow_succ).symm
/-- one round that lays bit k of y behind the k lowest ones -/
theorem or_step (y c k : Nat) (hk : k < 64) (hc : c = y / 2 ^ k % 2) :
    bits .or .u64 ((y % 2 ^ k : Nat) : Int) (IntKind.u64.wrap ((c : Int) * 2 ^ k)) = ((y % 2 ^ (k + 1) : Nat) : Int) := by
  subst hc
  rw [or_bit _ _ k (Nat.mod_lt _ (pow_pos' k)) (Nat.mod_lt _ (by decide)) hk, mod_step]
theorem rbits_step (x f k : Nat) (hx : x < 18446744073709551616) (hk : k < 64) :
    bits .or .u64 ((x / 2 ^ f % 2 ^ k : Nat) : Int) (IntKind.u64.wrap (bits .and .u64 ((x : Int) / 2 ^ (f + k)) 1 * 2 ^ k)) = ((x / 2 ^ f % 2 ^ (k + 1) : Nat) : Int) := by
  rw [bit_form x _ hx, or_step (x / 2 ^ f) _ k hk]
  rw [Nat.pow_add, Nat.div_div_eq_div_mul]

/-! Signs. -/
def sgN (x m : Nat) : Nat := if x % 2 ^ m < 2 ^ (m - 1) then x % 2 ^ m else 18446744073709551616 - (2 ^ m - (x % 2 ^ m + 1) + 1)
def signZ (x m : Int) : Int := if m < 1 ∨ 64 < m then 0 else ((sgN x.toNat m.toNat : Nat) : Int)
theorem sign_nat (x k m : Nat) (h : k + m = 64) (h1 : 1 ≤ m) :
    IntKind.u64.wrap (wrap64 (IntKind.u64.wrap ((x : Int) * 2 ^ k)) / 2 ^ k) = ((sgN x m : Nat) : Int) := by
  have e : ((x : Int) * 2 ^ k) % 18446744073709551616 = ((x % 2 ^ m * 2 ^ k : Nat) : Int) := by
    have e0 : (18446744073709551616 : Int) = ((2 ^ k * 2 ^ m : Nat) : Int) := by rw [split64 k m h]; rfl
    rw [pow_cast, e0]
    rw [show ((x : Int) * ((2 ^ k : Nat) : Int)) = ((2 ^ k * x : Nat) : Int) by rw [Nat.mul_comm]; simp]
    rw [← Int.natCast_emod, Nat.mul_mod_mul_left, Nat.mul_comm]
  rw [IntKind.wrap_u64, IntKind.wrap_u64, e, pow_cast]
  unfold wrap64
  have hk := pow_pos' k
  have hm := pow_pos' (m - 1)
  have hh := half m h1
  have hs := split64 k m h
  have hy : x % 2 ^ m < 2 ^ m := Nat.mod_lt _ (pow_pos' m)
  unfold sgN
  generalize x % 2 ^ m = y at *
  generalize 2 ^ (m - 1) = q at *
  generalize 2 ^ m = p at *
  generalize 2 ^ k = r at *
  subst hh
  have hs' : q * r = 9223372036854775808 := by
    have : 2 * (q * r) = 18446744073709551616 := by rw [← hs, Nat.mul_comm r, Nat.mul_assoc]
    omega
  by_cases hc : y < q
  · rw [if_pos (by omega)]
    have h2 : y * r + r ≤ q * r := by rw [← Nat.succ_mul]; exact Nat.mul_le_mul_right r hc
    have e1 : (((y * r : Nat) : Int) + 9223372036854775808) % 18446744073709551616 - 9223372036854775808 = ((y * r : Nat) : Int) := by omega
    rw [e1, ← Int.natCast_ediv, Nat.mul_div_cancel _ hk]
    have : y ≤ y * r := Nat.le_mul_of_pos_right y hk
    omega
  · rw [if_neg (by omega)]
    have h2 : q * r ≤ y * r := Nat.mul_le_mul_right r (by omega)
    have h3 : y * r + r ≤ 2 * q * r := by rw [← Nat.succ_mul]; exact Nat.mul_le_mul_right r hy
    have h4 : 2 * q * r = 18446744073709551616 := by rw [Nat.mul_assoc, hs']
    have e1 : (((y * r : Nat) : Int) + 9223372036854775808) % 18446744073709551616 - 9223372036854775808 = ((y : Int) - ((2 * q : Nat) : Int)) * (r : Int) := by
      rw [Int.sub_mul, ← Int.natCast_mul, ← Int.natCast_mul, h4]; omega
    rw [e1, Int.mul_ediv_cancel _ (by omega)]
    have : 2 * q ≤ 2 * q * r := Nat.le_mul_of_pos_right _ hk
    omega
theorem sign_form (x m : Int) (h0 : 0 ≤ x) (h1 : 1 ≤ m) (h2 : m ≤ 64) :
    IntKind.u64.wrap (wrap64 (IntKind.u64.wrap (x * 2 ^ (64 - m).toNat)) / 2 ^ (64 - m).toNat) = signZ x m := by
  obtain ⟨x, rfl⟩ := Int.eq_ofNat_of_zero_le h0
  rw [sign_nat x _ m.toNat (by omega) (by omega)]
  unfold signZ
  rw [if_neg (by omega), Int.toNat_natCast]

theorem bit_of (x i : Nat) : (x / 2 ^ i % 2) = if x.testBit i then 1 else 0 := by
  rw [Nat.testBit_eq_decide_div_mod_eq]
  have := Nat.mod_lt (x / 2 ^ i) (by decide : 0 < 2)
  split <;> simp_all <;> omega
/-! Whether a number has so few bits. -/
def fitsB (n m : Int) : Bool := decide (1 ≤ m ∧ m ≤ 64) && signZ (IntKind.u64.wrap n) m == IntKind.u64.wrap n
theorem wrap_u64_in (n : Int) : 0 ≤ IntKind.u64.wrap n ∧ IntKind.u64.wrap n < 18446744073709551616 := by rw [IntKind.wrap_u64]; omega
theorem fits_form (n m : Int) (h1 : 1 ≤ m) (h2 : m ≤ 64) :
    (IntKind.u64.wrap (wrap64 (IntKind.u64.wrap (IntKind.u64.wrap n * 2 ^ (64 - m).toNat)) / 2 ^ (64 - m).toNat) == IntKind.u64.wrap n) = fitsB n m := by
  unfold fitsB
  rw [sign_form _ m (wrap_u64_in n).1 h1 h2, decide_eq_true ⟨h1, h2⟩, Bool.true_and]
theorem fitsB_out (n m : Int) (h : m < 1 ∨ 64 < m) : fitsB n m = false := by
  unfold fitsB
  rw [decide_eq_false (by omega), Bool.false_and]
/-! Products. -/
theorem wrap_nat (n : Nat) (h : n < 18446744073709551616) : IntKind.u64.wrap (n : Int) = (n : Int) := by rw [IntKind.wrap_u64]; omega
/-! Quotients. -/
/-! The document's long division. -/
def dr (a b j : Nat) : Nat := a / 2 ^ j % b
/-! The document's product: sums of 128 bits. -/
end Go.Proofs.YtdpmihlmfephiaaGreatDoor
