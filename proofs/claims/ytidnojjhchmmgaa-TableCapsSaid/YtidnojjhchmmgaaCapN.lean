/- More plain mathematics of capabilities: permissions as bits; what the document's own answers come to. -/
import Derived.Test.YtidnojjhchmmgaaCapM
namespace Go.Proofs.Ytidnojjhchmmgaa
set_option linter.unusedVariables false
set_option linter.unusedSimpArgs false
open Go Go.RowKit

def rightC (c : CapV) : Bool := decide (0 ≤ c.perms) && (decide (c.perms ≤ 255) && (decide (-1 ≤ c.ty) && decide (c.ty ≤ 63)))
theorem eq_low (y : Int) (h : -1 ≤ y) : (!decide (0 ≤ y)) = (y == -1) := by
  rw [Bool.eq_iff_iff, Bool.not_eq_true', decide_eq_false_iff_not, beq_iff_eq]; omega
theorem ofInt64 (q : Int) : (BitVec.ofInt 64 q).toNat = (q % 18446744073709551616).toNat := by
  rw [BitVec.toNat_ofInt]; rfl
/-- a number of eight bits and any other one: the other one's lowest eight bits count -/
theorem and_low8 (p : Nat) (q : Int) (hp : p < 256) : bits .and .i64 (p : Int) q = ((p &&& (q % 256).toNat : Nat) : Int) := by
  have e : (BitVec.ofInt 64 (p : Int) &&& BitVec.ofInt 64 q).toNat = p &&& (q % 256).toNat := by
    rw [BitVec.toNat_and, ofInt64, ofInt64, show ((p : Int) % 18446744073709551616).toNat = p by omega]
    have h1 : p = p &&& 255 := by
      have := Nat.and_two_pow_sub_one_eq_mod p 8
      rw [show (2 : Nat) ^ 8 - 1 = 255 from rfl] at this
      rw [this]; omega
    have h2 : (q % 256).toNat = 255 &&& (q % 18446744073709551616).toNat := by
      have := Nat.and_two_pow_sub_one_eq_mod (q % 18446744073709551616).toNat 8
      rw [show (2 : Nat) ^ 8 - 1 = 255 from rfl] at this
      rw [Nat.and_comm, this]; omega
    rw [h2, ← Nat.and_assoc, ← h1]
  have hle : p &&& (q % 256).toNat ≤ p := Nat.and_le_left
  unfold bits
  show IntKind.i64.wrap ((BitVec.ofInt 64 (p : Int) &&& BitVec.ofInt 64 q).toNat : Int) = _
  rw [e, IntKind.wrap_i64]
  omega
theorem and_bit (a b k : Nat) : (a &&& b) / 2 ^ k % 2 = if a / 2 ^ k % 2 = 1 ∧ b / 2 ^ k % 2 = 1 then 1 else 0 := by
  rw [bit_of, Nat.testBit_and, Nat.testBit_eq_decide_div_mod_eq, Nat.testBit_eq_decide_div_mod_eq]
  by_cases h1 : a / 2 ^ k % 2 = 1 <;> by_cases h2 : b / 2 ^ k % 2 = 1 <;> simp [h1, h2]
theorem both_yes (a b k B : Nat) (hB : B = 2 ^ k) (h : a / B % 2 = 1 ∧ b / B % 2 = 1) : (a &&& b) % B + B = (a &&& b) % (B * 2) := by
  subst hB
  have := mod_step (a &&& b) k
  rw [and_bit, if_pos h, Nat.mul_one] at this
  rw [this, Nat.pow_succ]
theorem both_no (a b k B : Nat) (hB : B = 2 ^ k) (h : ¬ (a / B % 2 = 1 ∧ b / B % 2 = 1)) : (a &&& b) % B = (a &&& b) % (B * 2) := by
  subst hB
  have := mod_step (a &&& b) k
  rw [and_bit, if_neg h, Nat.mul_zero, Nat.add_zero] at this
  rw [this, Nat.pow_succ]
theorem half_bool (a B : Nat) (ha : a < 256) : ((wrap64 ((a : Int) / (B : Int))).tmod 2 == 1) = decide (a / B % 2 = 1) := by
  have h : a / B ≤ a := Nat.div_le_self _ _
  show ((wrap64 (((a / B : Nat) : Int))).tmod 2 == 1) = decide (a / B % 2 = 1)
  generalize a / B = q at *
  have e : wrap64 (q : Int) = (q : Int) := by unfold wrap64; omega
  rw [e, Int.tmod_eq_emod_of_nonneg (by omega), Bool.eq_iff_iff, beq_iff_eq, decide_eq_true_iff]
  omega
theorem pow_dbl (k B : Nat) (hB : B = 2 ^ k) : B * 2 = 2 ^ (k + 1) := by rw [hB, Nat.pow_succ]
theorem pow_bd (k B : Nat) (hB : B = 2 ^ k) (h : B < 256) : B ≤ 128 ∧ 1 ≤ B := by
  subst hB
  have hk : k < 8 := by
    rcases Nat.lt_or_ge k 8 with h8 | h8
    · exact h8
    · have := Nat.pow_le_pow_right (by decide : 0 < 2) h8
      omega
  have := Nat.pow_le_pow_right (by decide : 0 < 2) (show k ≤ 7 by omega)
  have := pow_pos' k
  omega
def rkeyC (c : CapV) (perm : Int) : Bool := c.tag && (c.ty == -1 && (!(((c.perms.toNat &&& perm.toNat : Nat) : Int) == 0) && (decide (c.base ≤ c.at_) && (decide (c.at_ < c.top) && decide (c.at_ < 64)))))
theorem live_low (c : CapV) (h : -1 ≤ c.ty) : c.live = (c.tag && c.ty == -1) := by unfold CapV.live CapV.sealed; rw [eq_low _ h]
theorem and255 (p : Int) : bits .and .i64 p 255 = p % 256 := by
  have e : (BitVec.ofInt 64 p &&& BitVec.ofInt 64 255).toNat = (p % 256).toNat := by
    rw [BitVec.toNat_and, ofInt64, ofInt64]
    have := Nat.and_two_pow_sub_one_eq_mod (p % 18446744073709551616).toNat 8
    rw [show (2 : Nat) ^ 8 - 1 = 255 from rfl] at this
    rw [show ((255 : Int) % 18446744073709551616).toNat = 255 from rfl, this]
    omega
  unfold bits
  show IntKind.i64.wrap ((BitVec.ofInt 64 p &&& BitVec.ofInt 64 255).toNat : Int) = _
  rw [e, IntKind.wrap_i64]
  omega
theorem and_both (p q : Int) (h0 : 0 ≤ p) (h1 : p ≤ 255) : ((p.toNat &&& (q % 256).toNat : Nat) : Int) = bits .and .i64 p q := by
  obtain ⟨p, rfl⟩ := Int.eq_ofNat_of_zero_le h0
  rw [and_low8 p q (by omega), Int.toNat_natCast]
theorem and_both' (p q : Int) (h0 : 0 ≤ p) (h1 : p ≤ 255) (h2 : 0 ≤ q) (h3 : q ≤ 255) : ((p.toNat &&& q.toNat : Nat) : Int) = bits .and .i64 p q := by
  rw [← and_both p q h0 h1, show q % 256 = q by omega]
theorem bit32 : ∀ p : Fin 256, (!(((p.val &&& 32 : Nat) : Int) == 0)) = (((p.val &&& 32 : Nat) : Int) == 32) := by decide +kernel
theorem bit64 : ∀ p : Fin 256, (!(((p.val &&& 64 : Nat) : Int) == 0)) = (((p.val &&& 64 : Nat) : Int) == 64) := by decide +kernel
theorem rkey_is (k : CapV) (perm : Int) (hp : perm = 32 ∨ perm = 64) (h : rightC k = true) : rkeyC k perm = (keyC k perm && decide (k.at_ < 64)) := by
  simp only [rightC, Bool.and_eq_true, decide_eq_true_eq] at h
  have e : (!(((k.perms.toNat &&& perm.toNat : Nat) : Int) == 0)) = (bits .and .i64 k.perms perm == perm) := by
    rw [← and_both' k.perms perm h.1 h.2.1 (by omega) (by omega)]
    rcases hp with rfl | rfl
    · exact bit32 ⟨k.perms.toNat, by omega⟩
    · exact bit64 ⟨k.perms.toNat, by omega⟩
  unfold rkeyC keyC CapV.sealed
  rw [e, ← eq_low _ h.2.2.1]
  simp only [Bool.and_assoc]
def rsealC (c k : CapV) : CapV := if c.tag && (c.ty == -1 && rkeyC k 32) then ⟨c.base, c.top, c.at_, c.perms, k.at_, true⟩ else c.clear
def runsealC (c k : CapV) : CapV := if c.tag && (!(c.ty == -1) && (rkeyC k 64 && k.at_ == c.ty)) then ⟨c.base, c.top, c.at_, c.perms, -1, true⟩ else c.clear
def rcheckC (c : CapV) (n perms : Int) : Int := if c.tag then (if c.ty == -1 then (if bits .and .i64 c.perms perms == perms then (if hasC c n then 0 else 23) else 22) else 21) else 20
def rwithinC (a b : CapV) : Bool := if a.tag then (if b.tag && (a.ty == b.ty && ((a.perms.toNat &&& b.perms.toNat : Nat) : Int) == a.perms) then (decide (a.top ≤ a.base) || (decide (b.base ≤ a.base) && decide (a.top ≤ b.top))) else false) else true
theorem seal_is (c k : CapV) (hc : rightC c = true) (hk : rightC k = true) : sealC c k = rsealC c k := by
  have h := hc
  simp only [rightC, Bool.and_eq_true, decide_eq_true_eq] at h
  unfold sealC rsealC
  rw [rkey_is k 32 (.inl rfl) hk, live_low c h.2.2.1]
  simp only [Bool.and_assoc]
theorem unseal_is (c k : CapV) (hc : rightC c = true) (hk : rightC k = true) (h0 : 0 ≤ k.at_) : unsealC c k = runsealC c k := by
  have h := hc
  simp only [rightC, Bool.and_eq_true, decide_eq_true_eq] at h
  have hE : (c.tag && (c.sealed && (keyC k 64 && k.at_ == IntKind.u64.wrap c.ty))) = (c.tag && (!(c.ty == -1) && (rkeyC k 64 && k.at_ == c.ty))) := by
    rw [rkey_is k 64 (.inr rfl) hk, IntKind.wrap_u64, ← eq_low _ h.2.2.1, Bool.not_not]
    unfold CapV.sealed
    apply Bool.eq_iff_iff.2
    simp only [Bool.and_eq_true, decide_eq_true_eq, beq_iff_eq]
    constructor
    · rintro ⟨a, b, d, e⟩; exact ⟨a, b, ⟨d, by omega⟩, by omega⟩
    · rintro ⟨a, b, ⟨d, _⟩, e⟩; exact ⟨a, b, d, by omega⟩
  unfold unsealC runsealC
  rw [hE]
theorem check_is (c : CapV) (n perms : Int) (hc : rightC c = true) : capCheckC c n perms = rcheckC c n perms := by
  simp only [rightC, Bool.and_eq_true, decide_eq_true_eq] at hc
  unfold capCheckC rcheckC CapV.sealed
  rw [← eq_low _ hc.2.2.1]
  cases decide (0 ≤ c.ty) <;> rfl
theorem within_is (a b : CapV) (ha : rightC a = true) (hb : rightC b = true) : withinC a b = rwithinC a b := by
  simp only [rightC, Bool.and_eq_true, decide_eq_true_eq] at ha hb
  unfold withinC rwithinC
  rw [and_both' a.perms b.perms ha.1 ha.2.1 hb.1 hb.2.1]
  cases a.tag
  · rfl
  · rw [if_pos rfl, if_pos rfl]
    cases b.tag <;> cases h1 : (a.ty == b.ty) <;> cases h2 : (bits .and .i64 a.perms b.perms == a.perms) <;> simp <;> (try (apply Bool.eq_iff_iff.2; simp only [Bool.or_eq_true, Bool.and_eq_true, Bool.not_eq_true', decide_eq_true_eq, decide_eq_false_iff_not]; omega))
end Go.Proofs.Ytidnojjhchmmgaa
