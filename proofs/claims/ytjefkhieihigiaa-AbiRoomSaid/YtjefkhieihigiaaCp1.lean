/- Merged: CapM CapN CapA AbC. -/
import Derived.Test.YtjefkhieihigiaaTa1
import Derived.Test.YtjefkhieihigiaaRows
import Derived.Test.YtjefkhieihigiaaWd1
import Derived.WalkKit
import Derived.ProofKit
import Derived.OpenShut
import Derived.Outline
import Derived.Deep.QuietTactic
import Derived.BigQuiet
import Derived.BigRegion
import Derived.LoopTactic
import Derived.Lib.Hide
namespace Go.Proofs.Ytjefkhieihigiaa.Ce
set_option linter.unusedVariables false
set_option linter.unusedSimpArgs false
open Go Go.RowKit

structure CapV where
  base : Int
  top : Int
  at_ : Int
  perms : Int
  ty : Int
  tag : Bool

def CapV.clear (c : CapV) : CapV := ⟨c.base, c.top, c.at_, c.perms, c.ty, false⟩
def CapV.sealed (c : CapV) : Bool := decide (0 ≤ c.ty)
def CapV.live (c : CapV) : Bool := c.tag && !c.sealed
def moveC (c : CapV) (to : Int) : CapV := ⟨c.base, c.top, to, c.perms, c.ty, c.live⟩
def hasC (c : CapV) (n : Int) : Bool := decide (c.base ≤ c.at_) && (decide (n ≤ 18446744073709551615 - c.at_) && decide (c.at_ + n ≤ c.top))
def boundC (c : CapV) (n : Int) : CapV := if c.live && hasC c n then ⟨c.at_, c.at_ + n, c.at_, c.perms, c.ty, true⟩ else c.clear
def andC (c : CapV) (perms : Int) : CapV := ⟨c.base, c.top, c.at_, bits .and .i64 c.perms perms, c.ty, c.live⟩
def keyC (c : CapV) (perm : Int) : Bool := c.tag && (!c.sealed && (bits .and .i64 c.perms perm == perm && (decide (c.base ≤ c.at_) && decide (c.at_ < c.top))))
def sealC (c k : CapV) : CapV := if c.live && (keyC k 32 && decide (k.at_ < 64)) then ⟨c.base, c.top, c.at_, c.perms, k.at_, true⟩ else c.clear
def unsealC (c k : CapV) : CapV := if c.tag && (c.sealed && (keyC k 64 && k.at_ == IntKind.u64.wrap c.ty)) then ⟨c.base, c.top, c.at_, c.perms, -1, true⟩ else c.clear
def capCheckC (c : CapV) (n perms : Int) : Int := if c.tag then (if c.sealed then 21 else if bits .and .i64 c.perms perms == perms then (if hasC c n then 0 else 23) else 22) else 20
def withinC (a b : CapV) : Bool := if a.tag then (if decide (a.base < a.top) && (decide (a.base < b.base) || decide (b.top < a.top)) then false else if bits .and .i64 a.perms b.perms == a.perms then a.ty == b.ty && b.tag else false) else true
end Go.Proofs.Ytjefkhieihigiaa.Ce

namespace Go.Proofs.Ytjefkhieihigiaa.Ce
set_option linter.unusedVariables false
set_option linter.unusedSimpArgs false
open Go Go.RowKit

def rightC (c : CapV) : Bool := decide (0 ≤ c.perms) && (decide (c.perms ≤ 255) && (decide (-1 ≤ c.ty) && decide (c.ty ≤ 63)))
theorem eq_low (y : Int) (h : -1 ≤ y) : (!decide (0 ≤ y)) = (y == -1) := by
  rw [Bool.eq_iff_iff, Bool.not_eq_true', decide_eq_false_iff_not, beq_iff_eq]; omega
theorem ofInt64 (q : Int) : (BitVec.ofInt 64 q).toNat = (q % 18446744073709551616).toNat := by
  rw [BitVec.toNat_ofInt]; rfl
/-- a number of eight bits and any other one: the other one's lowest eight bits count -/
theorem and_low8 (p : Nat) (q : Int) (hp : p < 256) : bits .and .i64 (p : Int) q = ((p &&& (q % 256).toNat : Nat) : Int) := by
  have e : (BitVec.ofInt 64 (p : Int) &&& BitVec.ofInt 64 q).toNat = p &&& (q % 256).toNat := by
    rw [BitVec.toNat_and, ofInt64, ofInt64, show ((p : Int) % 18446744073709551616).toNat = p by omega]
    have h1 : p = p &&& 255 := by
      have := Nat.and_two_pow_sub_one_eq_mod p 8
      rw [show (2 : Nat) ^ 8 - 1 = 255 from rfl] at this
      rw [this]; omega
    have h2 : (q % 256).toNat = 255 &&& (q % 18446744073709551616).toNat := by
      have := Nat.and_two_pow_sub_one_eq_mod (q % 18446744073709551616).toNat 8
      rw [show (2 : Nat) ^ 8 - 1 = 255 from rfl] at this
      rw [Nat.and_comm, this]; omega
    rw [h2, ← Nat.and_assoc, ← h1]
  have hle : p &&& (q % 256).toNat ≤ p := Nat.and_le_left
  unfold bits
  show IntKind.i64.wrap ((BitVec.ofInt 64 (p : Int) &&& BitVec.ofInt 64 q).toNat : Int) = _
  rw [e, IntKind.wrap_i64]
  omega
theorem and_bit (a b k : Nat) : (a &&& b) / 2 ^ k % 2 = if a / 2 ^ k % 2 = 1 ∧ b / 2 ^ k % 2 = 1 then 1 else 0 := by
  rw [bit_of, Nat.testBit_and, Nat.testBit_eq_decide_div_mod_eq, Nat.testBit_eq_decide_div_mod_eq]
  by_cases h1 : a / 2 ^ k % 2 = 1 <;> by_cases h2 : b / 2 ^ k % 2 = 1 <;> simp [h1, h2]
theorem both_yes (a b k B : Nat) (hB : B = 2 ^ k) (h : a / B % 2 = 1 ∧ b / B % 2 = 1) : (a &&& b) % B + B = (a &&& b) % (B * 2) := by
  subst hB
  have := mod_step (a &&& b) k
  rw [and_bit, if_pos h, Nat.mul_one] at this
  rw [this, Nat.pow_succ]
theorem both_no (a b k B : Nat) (hB : B = 2 ^ k) (h : ¬ (a / B % 2 = 1 ∧ b / B % 2 = 1)) : (a &&& b) % B = (a &&& b) % (B * 2) := by
  subst hB
  have := mod_step (a &&& b) k
  rw [and_bit, if_neg h, Nat.mul_zero, Nat.add_zero] at this
  rw [this, Nat.pow_succ]
theorem half_bool (a B : Nat) (ha : a < 256) : ((wrap64 ((a : Int) / (B : Int))).tmod 2 == 1) = decide (a / B % 2 = 1) := by
  have h : a / B ≤ a := Nat.div_le_self _ _
  show ((wrap64 (((a / B : Nat) : Int))).tmod 2 == 1) = decide (a / B % 2 = 1)
  generalize a / B = q at *
  have e : wrap64 (q : Int) = (q : Int) := by unfold wrap64; omega
  rw [e, Int.tmod_eq_emod_of_nonneg (by omega), Bool.eq_iff_iff, beq_iff_eq, decide_eq_true_iff]
  omega
theorem pow_dbl (k B : Nat) (hB : B = 2 ^ k) : B * 2 = 2 ^ (k + 1) := by rw [hB, Nat.pow_succ]
theorem pow_bd (k B : Nat) (hB : B = 2 ^ k) (h : B < 256) : B ≤ 128 ∧ 1 ≤ B := by
  subst hB
  have hk : k < 8 := by
    rcases Nat.lt_or_ge k 8 with h8 | h8
    · exact h8
    · have := Nat.pow_le_pow_right (by decide : 0 < 2) h8
      omega
  have := Nat.pow_le_pow_right (by decide : 0 < 2) (show k ≤ 7 by omega)
  have := pow_pos' k
  omega
def rkeyC (c : CapV) (perm : Int) : Bool := c.tag && (c.ty == -1 && (!(((c.perms.toNat &&& perm.toNat : Nat) : Int) == 0) && (decide (c.base ≤ c.at_) && (decide (c.at_ < c.top) && decide (c.at_ < 64)))))
theorem live_low (c : CapV) (h : -1 ≤ c.ty) : c.live = (c.tag && c.ty == -1) := by unfold CapV.live CapV.sealed; rw [eq_low _ h]
theorem and255 (p : Int) : bits .and .i64 p 255 = p % 256 := by
  have e : (BitVec.ofInt 64 p &&& BitVec.ofInt 64 255).toNat = (p % 256).toNat := by
    rw [BitVec.toNat_and, ofInt64, ofInt64]
    have := Nat.and_two_pow_sub_one_eq_mod (p % 18446744073709551616).toNat 8
    rw [show (2 : Nat) ^ 8 - 1 = 255 from rfl] at this
    rw [show ((255 : Int) % 18446744073709551616).toNat = 255 from rfl, this]
    omega
  unfold bits
  show IntKind.i64.wrap ((BitVec.ofInt 64 p &&& BitVec.ofInt 64 255).toNat : Int) = _
  rw [e, IntKind.wrap_i64]
  omega
theorem and_both (p q : Int) (h0 : 0 ≤ p) (h1 : p ≤ 255) : ((p.toNat &&& (q % 256).toNat : Nat) : Int) = bits .and .i64 p q := by
  obtain ⟨p, rfl⟩ := Int.eq_ofNat_of_zero_le h0
  rw [and_low8 p q (by omega), Int.toNat_natCast]
theorem and_both' (p q : Int) (h0 : 0 ≤ p) (h1 : p ≤ 255) (h2 : 0 ≤ q) (h3 : q ≤ 255) : ((p.toNat &&& q.toNat : Nat) : Int) = bits .and .i64 p q := by
  rw [← and_both p q h0 h1, show q % 256 = q by omega]
theorem bit32 : ∀ p : Fin 256, (!(((p.val &&& 32 : Nat) : Int) == 0)) = (((p.val &&& 32 : Nat) : Int) == 32) := by decide +kernel
theorem bit64 : ∀ p : Fin 256, (!(((p.val &&& 64 : Nat) : Int) == 0)) = (((p.val &&& 64 : Nat) : Int) == 64) := by decide +kernel
theorem rkey_is (k : CapV) (perm : Int) (hp : perm = 32 ∨ perm = 64) (h : rightC k = true) : rkeyC k perm = (keyC k perm && decide (k.at_ < 64)) := by
  simp only [rightC, Bool.and_eq_true, decide_eq_true_eq] at h
  have e : (!(((k.perms.toNat &&& perm.toNat : Nat) : Int) == 0)) = (bits .and .i64 k.perms perm == perm) := by
    rw [← and_both' k.perms perm h.1 h.2.1 (by omega) (by omega)]
    rcases hp with rfl | rfl
    · exact bit32 ⟨k.perms.toNat, by omega⟩
    · exact bit64 ⟨k.perms.toNat, by omega⟩
  unfold rkeyC keyC CapV.sealed
  rw [e, ← eq_low _ h.2.2.1]
  simp only [Bool.and_assoc]
def rsealC (c k : CapV) : CapV := if c.tag && (c.ty == -1 && rkeyC k 32) then ⟨c.base, c.top, c.at_, c.perms, k.at_, true⟩ else c.clear
def runsealC (c k : CapV) : CapV := if c.tag && (!(c.ty == -1) && (rkeyC k 64 && k.at_ == c.ty)) then ⟨c.base, c.top, c.at_, c.perms, -1, true⟩ else c.clear
def rcheckC (c : CapV) (n perms : Int) : Int := if c.tag then (if c.ty == -1 then (if bits .and .i64 c.perms perms == perms then (if hasC c n then 0 else 23) else 22) else 21) else 20
def rwithinC (a b : CapV) : Bool := if a.tag then (if b.tag && (a.ty == b.ty && ((a.perms.toNat &&& b.perms.toNat : Nat) : Int) == a.perms) then (decide (a.top ≤ a.base) || (decide (b.base ≤ a.base) && decide (a.top ≤ b.top))) else false) else true
theorem seal_is (c k : CapV) (hc : rightC c = true) (hk : rightC k = true) : sealC c k = rsealC c k := by
  have h := hc
  simp only [rightC, Bool.and_eq_true, decide_eq_true_eq] at h
  unfold sealC rsealC
  rw [rkey_is k 32 (.inl rfl) hk, live_low c h.2.2.1]
  simp only [Bool.and_assoc]
theorem unseal_is (c k : CapV) (hc : rightC c = true) (hk : rightC k = true) (h0 : 0 ≤ k.at_) : unsealC c k = runsealC c k := by
  have h := hc
  simp only [rightC, Bool.and_eq_true, decide_eq_true_eq] at h
  have hE : (c.tag && (c.sealed && (keyC k 64 && k.at_ == IntKind.u64.wrap c.ty))) = (c.tag && (!(c.ty == -1) && (rkeyC k 64 && k.at_ == c.ty))) := by
    rw [rkey_is k 64 (.inr rfl) hk, IntKind.wrap_u64, ← eq_low _ h.2.2.1, Bool.not_not]
    unfold CapV.sealed
    apply Bool.eq_iff_iff.2
    simp only [Bool.and_eq_true, decide_eq_true_eq, beq_iff_eq]
    constructor
    · rintro ⟨a, b, d, e⟩; exact ⟨a, b, ⟨d, by omega⟩, by omega⟩
    · rintro ⟨a, b, ⟨d, _⟩, e⟩; exact ⟨a, b, d, by omega⟩
  unfold unsealC runsealC
  rw [hE]
theorem check_is (c : CapV) (n perms : Int) (hc : rightC c = true) : capCheckC c n perms = rcheckC c n perms := by
  simp only [rightC, Bool.and_eq_true, decide_eq_true_eq] at hc
  unfold capCheckC rcheckC CapV.sealed
  rw [← eq_low _ hc.2.2.1]
  cases decide (0 ≤ c.ty) <;> rfl
theorem within_is (a b : CapV) (ha : rightC a = true) (hb : rightC b = true) : withinC a b = rwithinC a b := by
  simp only [rightC, Bool.and_eq_true, decide_eq_true_eq] at ha hb
  unfold withinC rwithinC
  rw [and_both' a.perms b.perms ha.1 ha.2.1 hb.1 hb.2.1]
  cases a.tag
  · rfl
  · rw [if_pos rfl, if_pos rfl]
    cases b.tag <;> cases h1 : (a.ty == b.ty) <;> cases h2 : (bits .and .i64 a.perms b.perms == a.perms) <;> simp <;> (try (apply Bool.eq_iff_iff.2; simp only [Bool.or_eq_true, Bool.and_eq_true, Bool.not_eq_true', decide_eq_true_eq, decide_eq_false_iff_not]; omega))
end Go.Proofs.Ytjefkhieihigiaa.Ce

namespace Go.Proofs.Ytjefkhieihigiaa.Ce
set_option linter.unusedVariables false
set_option linter.unusedSimpArgs false
open Go.ChangeShapes Go.WideShapes Go.ChangeAt Go.RowKit

/-- behind a call that makes new blocks: old cells read as they did -/
theorem bcell {W w1 : World} (hb : Below W.heap.size W w1) : (∀ b o, b < W.heap.size → w1.cell? ⟨b, o, none⟩ = W.cell? ⟨b, o, none⟩) ∧ (∀ b o, b < W.heap.size → w1.frozen? ⟨b, o, none⟩ = W.frozen? ⟨b, o, none⟩) :=
  ⟨fun b o h => hb.cell (p := ⟨b, o, none⟩) h, fun b o h => hb.frozen (p := ⟨b, o, none⟩) h⟩

def intC (x : Int) : CapV := ⟨0, 0, x, 0, -1, false⟩
def rootC (x : Int) : CapV := ⟨0, x, 0, 255, -1, true⟩
theorem World.size_setCell' (w : World) (a : Addr) (v : Value) : (w.setCell a v).heap.size = w.heap.size := by simp
theorem clear_any (cb ct ca cp cy : Int) (cg : Bool) (w : World) :
    Calls Try.prog 66 #[.agg #[.int .u64 cb, .int .u64 ct, .int .u64 ca, .int .i64 cp, .int .i64 cy, .bool cg]] w fun e w' => e = .returned (.agg #[.int .u64 cb, .int .u64 ct, .int .u64 ca, .int .i64 cp, .int .i64 cy, .bool false]) ∧ (w.alloc (.cells #[.int .u64 cb, .int .u64 ct, .int .u64 ca, .int .i64 cp, .int .i64 cy, .bool false] 32)).alloc (.cells #[.int .u64 cb, .int .u64 ct, .int .u64 ca, .int .i64 cp, .int .i64 cy, .bool false] 32) = w' := by
  go_enter Try.func66, Try.ntmps66
  go_wp2
  exact bodyPost_ret (v := .agg #[.int .u64 cb, .int .u64 ct, .int .u64 ca, .int .i64 cp, .int .i64 cy, .bool false]) (by simp [results, Try.results66, go_sem, CapV.clear]) rfl ⟨rfl, rfl⟩
theorem int_any (x : Int) (w : World) :
    Calls Try.prog 59 #[.int .u64 x] w fun e w' => e = .returned (.agg #[.int .u64 (intC x).base, .int .u64 (intC x).top, .int .u64 (intC x).at_, .int .i64 (intC x).perms, .int .i64 (intC x).ty, .bool (intC x).tag]) ∧ w.alloc (.cells #[.int .u64 (intC x).base, .int .u64 (intC x).top, .int .u64 (intC x).at_, .int .i64 (intC x).perms, .int .i64 (intC x).ty, .bool (intC x).tag] 32) = w' := by
  go_enter Try.func59, Try.ntmps59
  go_wp2
  exact bodyPost_ret (v := .agg #[.int .u64 (intC x).base, .int .u64 (intC x).top, .int .u64 (intC x).at_, .int .i64 (intC x).perms, .int .i64 (intC x).ty, .bool (intC x).tag]) (by simp [results, Try.results59, go_sem, intC]) rfl ⟨rfl, rfl⟩
theorem null_any (w : World) :
    Calls Try.prog 46 #[] w fun e w' => e = .returned (.agg #[.int .u64 (intC 0).base, .int .u64 (intC 0).top, .int .u64 (intC 0).at_, .int .i64 (intC 0).perms, .int .i64 (intC 0).ty, .bool (intC 0).tag]) ∧ Below w.heap.size w w' := by
  go_enter Try.func46, Try.ntmps46
  go_wp2_with (go_at_call 59; refine (int_any _ _).mono ?_; rintro e w1 ⟨rfl, rfl⟩)
  exact bodyPost_ret (v := .agg #[.int .u64 (intC 0).base, .int .u64 (intC 0).top, .int .u64 (intC 0).at_, .int .i64 (intC 0).perms, .int .i64 (intC 0).ty, .bool (intC 0).tag]) (by simp [results, Try.results46, go_sem, intC]) rfl ⟨rfl, (by repeat' (first | (with_reducible refine Below.setCell ?_ ?_ _) | (with_reducible refine bAlloc ?_ _) | (with_reducible refine bDrewN ?_ _) | (with_reducible refine Below.drew ?_) | (with_reducible exact Below.refl _ _) | (simp; done) | (simp; omega)))⟩
theorem root_any (x : Int) (w : World) :
    Calls Try.prog 57 #[.int .u64 x] w fun e w' => e = .returned (.agg #[.int .u64 (rootC x).base, .int .u64 (rootC x).top, .int .u64 (rootC x).at_, .int .i64 (rootC x).perms, .int .i64 (rootC x).ty, .bool (rootC x).tag]) ∧ Below w.heap.size w w' := by
  go_enter Try.func57, Try.ntmps57
  go_wp2
  exact bodyPost_ret (v := .agg #[.int .u64 (rootC x).base, .int .u64 (rootC x).top, .int .u64 (rootC x).at_, .int .i64 (rootC x).perms, .int .i64 (rootC x).ty, .bool (rootC x).tag]) (by simp [results, Try.results57, go_sem, rootC]) rfl ⟨rfl, (by repeat' (first | (with_reducible refine Below.setCell ?_ ?_ _) | (with_reducible refine bAlloc ?_ _) | (with_reducible refine bDrewN ?_ _) | (with_reducible refine Below.drew ?_) | (with_reducible exact Below.refl _ _) | (simp; done) | (simp; omega)))⟩
theorem sealed_any (cb ct ca cp cy : Int) (cg : Bool) (w : World) :
    Calls Try.prog 64 #[.agg #[.int .u64 cb, .int .u64 ct, .int .u64 ca, .int .i64 cp, .int .i64 cy, .bool cg]] w fun e w' => e = .returned (.bool (decide (0 ≤ cy))) ∧ w.alloc (.cells #[.int .u64 cb, .int .u64 ct, .int .u64 ca, .int .i64 cp, .int .i64 cy, .bool cg] 32) = w' := by
  go_enter Try.func64, Try.ntmps64
  go_wp2
  go_ret
  exact ⟨rfl, rfl⟩
theorem unless_no (cb ct ca cp cy : Int) (cg : Bool) (db dt da dp dy : Int) (dg : Bool) (w : World) (hs : cy < 0) :
    Calls Try.prog 60 #[.agg #[.int .u64 cb, .int .u64 ct, .int .u64 ca, .int .i64 cp, .int .i64 cy, .bool cg], .agg #[.int .u64 db, .int .u64 dt, .int .u64 da, .int .i64 dp, .int .i64 dy, .bool dg]] w fun e w' => e = .returned (.agg #[.int .u64 db, .int .u64 dt, .int .u64 da, .int .i64 dp, .int .i64 dy, .bool dg]) ∧ Below w.heap.size w w' := by
  go_enter Try.func60, Try.ntmps60
  go_wp2
  exact bodyPost_ret (v := .agg #[.int .u64 db, .int .u64 dt, .int .u64 da, .int .i64 dp, .int .i64 dy, .bool dg]) (by simp [results, Try.results60, go_sem]) rfl ⟨rfl, (by repeat' (first | (with_reducible refine Below.setCell ?_ ?_ _) | (with_reducible refine bAlloc ?_ _) | (with_reducible refine bDrewN ?_ _) | (with_reducible refine Below.drew ?_) | (with_reducible exact Below.refl _ _) | (simp; done) | (simp; omega)))⟩
theorem unless_yes (cb ct ca cp cy : Int) (cg : Bool) (db dt da dp dy : Int) (dg : Bool) (w : World) (hs : 0 ≤ cy) :
    Calls Try.prog 60 #[.agg #[.int .u64 cb, .int .u64 ct, .int .u64 ca, .int .i64 cp, .int .i64 cy, .bool cg], .agg #[.int .u64 db, .int .u64 dt, .int .u64 da, .int .i64 dp, .int .i64 dy, .bool dg]] w fun e w' => e = .returned (.agg #[.int .u64 db, .int .u64 dt, .int .u64 da, .int .i64 dp, .int .i64 dy, .bool false]) ∧ Below w.heap.size w w' := by
  go_enter Try.func60, Try.ntmps60
  go_wp2_with (first | (go_at_call 66; refine (clear_any _ _ _ _ _ _ _).mono ?_; rintro e w1 ⟨rfl, rfl⟩) | (go_at_call 64; refine (sealed_any _ _ _ _ _ _ _).mono ?_; rintro e w1 ⟨rfl, rfl⟩))
  exact bodyPost_ret (v := .agg #[.int .u64 db, .int .u64 dt, .int .u64 da, .int .i64 dp, .int .i64 dy, .bool false]) (by simp [results, Try.results60, go_sem]) rfl ⟨rfl, (by repeat' (first | (with_reducible refine Below.setCell ?_ ?_ _) | (with_reducible refine bAlloc ?_ _) | (with_reducible refine bDrewN ?_ _) | (with_reducible refine Below.drew ?_) | (with_reducible exact Below.refl _ _) | (simp; done) | (simp; omega)))⟩
set_option maxHeartbeats 1000000 in
theorem move_any (cb ct ca cp cy : Int) (cg : Bool) (to : Int) (w : World) :
    Calls Try.prog 47 #[.agg #[.int .u64 cb, .int .u64 ct, .int .u64 ca, .int .i64 cp, .int .i64 cy, .bool cg], .int .u64 to] w fun e w' => e = .returned (.agg #[.int .u64 (moveC (⟨cb, ct, ca, cp, cy, cg⟩ : CapV) to).base, .int .u64 (moveC (⟨cb, ct, ca, cp, cy, cg⟩ : CapV) to).top, .int .u64 (moveC (⟨cb, ct, ca, cp, cy, cg⟩ : CapV) to).at_, .int .i64 (moveC (⟨cb, ct, ca, cp, cy, cg⟩ : CapV) to).perms, .int .i64 (moveC (⟨cb, ct, ca, cp, cy, cg⟩ : CapV) to).ty, .bool (moveC (⟨cb, ct, ca, cp, cy, cg⟩ : CapV) to).tag]) ∧ Below w.heap.size w w' := by
  by_cases hs : 0 ≤ cy
  · go_enter Try.func47, Try.ntmps47
    go_wp2_with (go_at_call 60; refine (unless_yes _ _ _ _ _ _ _ _ _ _ _ _ _ hs).mono ?_; rintro e w1 ⟨rfl, hb⟩; obtain ⟨hc, hf⟩ := bcell hb; have hz := hb.size; simp only [size_alloc, World.size_setCell'] at hz; (try (have hz0 : w.heap.size < w1.heap.size := by omega)); (try (have hz1 : w.heap.size + 1 < w1.heap.size := by omega)); (try (have hz2 : w.heap.size + 1 + 1 < w1.heap.size := by omega)); (try (have hz3 : w.heap.size + 1 + 1 + 1 < w1.heap.size := by omega)); clear hz; have HB := Lib.hid (bTrans (w := w) (by repeat' (first | (with_reducible refine Below.setCell ?_ ?_ _) | (with_reducible refine bAlloc ?_ _) | (with_reducible refine bDrewN ?_ _) | (with_reducible refine Below.drew ?_) | (with_reducible exact Below.refl _ _) | (simp; done) | (simp; omega))) hb); clear hb)
    exact bodyPost_ret (v := .agg #[.int .u64 (moveC (⟨cb, ct, ca, cp, cy, cg⟩ : CapV) to).base, .int .u64 (moveC (⟨cb, ct, ca, cp, cy, cg⟩ : CapV) to).top, .int .u64 (moveC (⟨cb, ct, ca, cp, cy, cg⟩ : CapV) to).at_, .int .i64 (moveC (⟨cb, ct, ca, cp, cy, cg⟩ : CapV) to).perms, .int .i64 (moveC (⟨cb, ct, ca, cp, cy, cg⟩ : CapV) to).ty, .bool (moveC (⟨cb, ct, ca, cp, cy, cg⟩ : CapV) to).tag]) (by simp [results, Try.results47, go_sem, moveC, andC, CapV.live, CapV.sealed, hs, hc]) rfl ⟨rfl, (by repeat' (first | (with_reducible refine Below.setCell ?_ ?_ _) | (with_reducible refine bAlloc ?_ _) | (with_reducible refine bDrewN ?_ _) | (with_reducible refine Below.drew ?_) | (with_reducible exact HB.out) | (with_reducible exact Below.refl _ _) | (simp; done) | (simp; omega)))⟩
  · go_enter Try.func47, Try.ntmps47
    go_wp2_with (go_at_call 60; refine (unless_no _ _ _ _ _ _ _ _ _ _ _ _ _ (by omega)).mono ?_; rintro e w1 ⟨rfl, hb⟩; obtain ⟨hc, hf⟩ := bcell hb; have hz := hb.size; simp only [size_alloc, World.size_setCell'] at hz; (try (have hz0 : w.heap.size < w1.heap.size := by omega)); (try (have hz1 : w.heap.size + 1 < w1.heap.size := by omega)); (try (have hz2 : w.heap.size + 1 + 1 < w1.heap.size := by omega)); (try (have hz3 : w.heap.size + 1 + 1 + 1 < w1.heap.size := by omega)); clear hz; have HB := Lib.hid (bTrans (w := w) (by repeat' (first | (with_reducible refine Below.setCell ?_ ?_ _) | (with_reducible refine bAlloc ?_ _) | (with_reducible refine bDrewN ?_ _) | (with_reducible refine Below.drew ?_) | (with_reducible exact Below.refl _ _) | (simp; done) | (simp; omega))) hb); clear hb)
    exact bodyPost_ret (v := .agg #[.int .u64 (moveC (⟨cb, ct, ca, cp, cy, cg⟩ : CapV) to).base, .int .u64 (moveC (⟨cb, ct, ca, cp, cy, cg⟩ : CapV) to).top, .int .u64 (moveC (⟨cb, ct, ca, cp, cy, cg⟩ : CapV) to).at_, .int .i64 (moveC (⟨cb, ct, ca, cp, cy, cg⟩ : CapV) to).perms, .int .i64 (moveC (⟨cb, ct, ca, cp, cy, cg⟩ : CapV) to).ty, .bool (moveC (⟨cb, ct, ca, cp, cy, cg⟩ : CapV) to).tag]) (by simp [results, Try.results47, go_sem, moveC, andC, CapV.live, CapV.sealed, hs, hc]) rfl ⟨rfl, (by repeat' (first | (with_reducible refine Below.setCell ?_ ?_ _) | (with_reducible refine bAlloc ?_ _) | (with_reducible refine bDrewN ?_ _) | (with_reducible refine Below.drew ?_) | (with_reducible exact HB.out) | (with_reducible exact Below.refl _ _) | (simp; done) | (simp; omega)))⟩
set_option maxHeartbeats 1000000 in
theorem and_any (cb ct ca cp cy : Int) (cg : Bool) (p : Int) (w : World) :
    Calls Try.prog 55 #[.agg #[.int .u64 cb, .int .u64 ct, .int .u64 ca, .int .i64 cp, .int .i64 cy, .bool cg], .int .i64 p] w fun e w' => e = .returned (.agg #[.int .u64 (andC (⟨cb, ct, ca, cp, cy, cg⟩ : CapV) p).base, .int .u64 (andC (⟨cb, ct, ca, cp, cy, cg⟩ : CapV) p).top, .int .u64 (andC (⟨cb, ct, ca, cp, cy, cg⟩ : CapV) p).at_, .int .i64 (andC (⟨cb, ct, ca, cp, cy, cg⟩ : CapV) p).perms, .int .i64 (andC (⟨cb, ct, ca, cp, cy, cg⟩ : CapV) p).ty, .bool (andC (⟨cb, ct, ca, cp, cy, cg⟩ : CapV) p).tag]) ∧ Below w.heap.size w w' := by
  by_cases hs : 0 ≤ cy
  · go_enter Try.func55, Try.ntmps55
    go_wp2_with (go_at_call 60; refine (unless_yes _ _ _ _ _ _ _ _ _ _ _ _ _ hs).mono ?_; rintro e w1 ⟨rfl, hb⟩; obtain ⟨hc, hf⟩ := bcell hb; have hz := hb.size; simp only [size_alloc, World.size_setCell'] at hz; (try (have hz0 : w.heap.size < w1.heap.size := by omega)); (try (have hz1 : w.heap.size + 1 < w1.heap.size := by omega)); (try (have hz2 : w.heap.size + 1 + 1 < w1.heap.size := by omega)); (try (have hz3 : w.heap.size + 1 + 1 + 1 < w1.heap.size := by omega)); clear hz; have HB := Lib.hid (bTrans (w := w) (by repeat' (first | (with_reducible refine Below.setCell ?_ ?_ _) | (with_reducible refine bAlloc ?_ _) | (with_reducible refine bDrewN ?_ _) | (with_reducible refine Below.drew ?_) | (with_reducible exact Below.refl _ _) | (simp; done) | (simp; omega))) hb); clear hb)
    exact bodyPost_ret (v := .agg #[.int .u64 (andC (⟨cb, ct, ca, cp, cy, cg⟩ : CapV) p).base, .int .u64 (andC (⟨cb, ct, ca, cp, cy, cg⟩ : CapV) p).top, .int .u64 (andC (⟨cb, ct, ca, cp, cy, cg⟩ : CapV) p).at_, .int .i64 (andC (⟨cb, ct, ca, cp, cy, cg⟩ : CapV) p).perms, .int .i64 (andC (⟨cb, ct, ca, cp, cy, cg⟩ : CapV) p).ty, .bool (andC (⟨cb, ct, ca, cp, cy, cg⟩ : CapV) p).tag]) (by simp [results, Try.results55, go_sem, moveC, andC, CapV.live, CapV.sealed, hs, hc]) rfl ⟨rfl, (by repeat' (first | (with_reducible refine Below.setCell ?_ ?_ _) | (with_reducible refine bAlloc ?_ _) | (with_reducible refine bDrewN ?_ _) | (with_reducible refine Below.drew ?_) | (with_reducible exact HB.out) | (with_reducible exact Below.refl _ _) | (simp; done) | (simp; omega)))⟩
  · go_enter Try.func55, Try.ntmps55
    go_wp2_with (go_at_call 60; refine (unless_no _ _ _ _ _ _ _ _ _ _ _ _ _ (by omega)).mono ?_; rintro e w1 ⟨rfl, hb⟩; obtain ⟨hc, hf⟩ := bcell hb; have hz := hb.size; simp only [size_alloc, World.size_setCell'] at hz; (try (have hz0 : w.heap.size < w1.heap.size := by omega)); (try (have hz1 : w.heap.size + 1 < w1.heap.size := by omega)); (try (have hz2 : w.heap.size + 1 + 1 < w1.heap.size := by omega)); (try (have hz3 : w.heap.size + 1 + 1 + 1 < w1.heap.size := by omega)); clear hz; have HB := Lib.hid (bTrans (w := w) (by repeat' (first | (with_reducible refine Below.setCell ?_ ?_ _) | (with_reducible refine bAlloc ?_ _) | (with_reducible refine bDrewN ?_ _) | (with_reducible refine Below.drew ?_) | (with_reducible exact Below.refl _ _) | (simp; done) | (simp; omega))) hb); clear hb)
    exact bodyPost_ret (v := .agg #[.int .u64 (andC (⟨cb, ct, ca, cp, cy, cg⟩ : CapV) p).base, .int .u64 (andC (⟨cb, ct, ca, cp, cy, cg⟩ : CapV) p).top, .int .u64 (andC (⟨cb, ct, ca, cp, cy, cg⟩ : CapV) p).at_, .int .i64 (andC (⟨cb, ct, ca, cp, cy, cg⟩ : CapV) p).perms, .int .i64 (andC (⟨cb, ct, ca, cp, cy, cg⟩ : CapV) p).ty, .bool (andC (⟨cb, ct, ca, cp, cy, cg⟩ : CapV) p).tag]) (by simp [results, Try.results55, go_sem, moveC, andC, CapV.live, CapV.sealed, hs, hc]) rfl ⟨rfl, (by repeat' (first | (with_reducible refine Below.setCell ?_ ?_ _) | (with_reducible refine bAlloc ?_ _) | (with_reducible refine bDrewN ?_ _) | (with_reducible refine Below.drew ?_) | (with_reducible exact HB.out) | (with_reducible exact Below.refl _ _) | (simp; done) | (simp; omega)))⟩
theorem caphas_any (cb ct ca cp cy : Int) (cg : Bool) (n : Int) (w : World) (h1 : 0 ≤ ca) (h2 : ca < 18446744073709551616) (h3 : 0 ≤ n) :
    Calls Try.prog 65 #[.agg #[.int .u64 cb, .int .u64 ct, .int .u64 ca, .int .i64 cp, .int .i64 cy, .bool cg], .int .u64 n] w fun e w' => e = .returned (.bool (hasC (⟨cb, ct, ca, cp, cy, cg⟩ : CapV) n)) ∧ w.alloc (.cells #[.int .u64 cb, .int .u64 ct, .int .u64 ca, .int .i64 cp, .int .i64 cy, .bool cg] 32) = w' := by
  by_cases a1 : cb ≤ ca
  · have ta1 : decide (cb ≤ ca) = true := decide_eq_true a1
    have Ha1 := Lib.hid ta1
    by_cases a2 : n ≤ 18446744073709551615 - ca
    · have ta2 : decide (n ≤ 18446744073709551615 - ca) = true := decide_eq_true a2
      have Ha2 := Lib.hid ta2
      go_enter Try.func65, Try.ntmps65
      go_wp2
      go_ret
      exact ⟨ret_bool (by simp only [hasC, Ha1.out, Ha2.out, Bool.false_and, Bool.and_false, Bool.true_and, Bool.and_true, Bool.not_true, Bool.not_false, Bool.false_or, Bool.or_false, Bool.true_or, Bool.or_true, if_true, if_false, Bool.false_eq_true]), rfl⟩
    · have ta2 : decide (n ≤ 18446744073709551615 - ca) = false := decide_eq_false a2
      have Ha2 := Lib.hid ta2
      go_enter Try.func65, Try.ntmps65
      go_wp2
      go_ret
      exact ⟨ret_bool (by simp only [hasC, Ha1.out, Ha2.out, Bool.false_and, Bool.and_false, Bool.true_and, Bool.and_true, Bool.not_true, Bool.not_false, Bool.false_or, Bool.or_false, Bool.true_or, Bool.or_true, if_true, if_false, Bool.false_eq_true]), rfl⟩
  · have ta1 : decide (cb ≤ ca) = false := decide_eq_false a1
    have Ha1 := Lib.hid ta1
    go_enter Try.func65, Try.ntmps65
    go_wp2
    go_ret
    exact ⟨ret_bool (by simp only [hasC, Ha1.out, Bool.false_and, Bool.and_false, Bool.true_and, Bool.and_true, Bool.not_true, Bool.not_false, Bool.false_or, Bool.or_false, Bool.true_or, Bool.or_true, if_true, if_false, Bool.false_eq_true]), rfl⟩
theorem bound_any (cb ct ca cp cy : Int) (cg : Bool) (n : Int) (w : World) (h1 : 0 ≤ ca) (h2 : ca < 18446744073709551616) (h3 : 0 ≤ n) (h4 : ct < 18446744073709551616) :
    Calls Try.prog 56 #[.agg #[.int .u64 cb, .int .u64 ct, .int .u64 ca, .int .i64 cp, .int .i64 cy, .bool cg], .int .u64 n] w fun e w' => e = .returned (.agg #[.int .u64 (boundC (⟨cb, ct, ca, cp, cy, cg⟩ : CapV) n).base, .int .u64 (boundC (⟨cb, ct, ca, cp, cy, cg⟩ : CapV) n).top, .int .u64 (boundC (⟨cb, ct, ca, cp, cy, cg⟩ : CapV) n).at_, .int .i64 (boundC (⟨cb, ct, ca, cp, cy, cg⟩ : CapV) n).perms, .int .i64 (boundC (⟨cb, ct, ca, cp, cy, cg⟩ : CapV) n).ty, .bool (boundC (⟨cb, ct, ca, cp, cy, cg⟩ : CapV) n).tag]) ∧ Below w.heap.size w w' := by
  by_cases hs : 0 ≤ cy
  · have hb0 : boundC (⟨cb, ct, ca, cp, cy, cg⟩ : CapV) n = CapV.clear (⟨cb, ct, ca, cp, cy, cg⟩ : CapV) := by simp [boundC, CapV.live, CapV.sealed, hs]
    rw [hb0]
    cases cg
    all_goals
      go_enter Try.func56, Try.ntmps56
      go_wp2_with (first | (go_at_call 65; refine (caphas_any _ _ _ _ _ _ _ _ h1 h2 h3).mono ?_; rintro e w1 ⟨rfl, rfl⟩) | (go_at_call 64; refine (sealed_any _ _ _ _ _ _ _).mono ?_; rintro e w1 ⟨rfl, rfl⟩) | (go_at_call 66; refine (clear_any _ _ _ _ _ _ _).mono ?_; rintro e w1 ⟨rfl, rfl⟩))
      exact bodyPost_ret (v := .agg #[.int .u64 cb, .int .u64 ct, .int .u64 ca, .int .i64 cp, .int .i64 cy, .bool false]) (by simp [results, Try.results56, go_sem, CapV.clear]) rfl ⟨rfl, (by repeat' (first | (with_reducible refine Below.setCell ?_ ?_ _) | (with_reducible refine bAlloc ?_ _) | (with_reducible refine bDrewN ?_ _) | (with_reducible refine Below.drew ?_) | (with_reducible exact Below.refl _ _) | (simp; done) | (simp; omega)))⟩
  · cases cg
    · have hb0 : boundC (⟨cb, ct, ca, cp, cy, false⟩ : CapV) n = CapV.clear (⟨cb, ct, ca, cp, cy, false⟩ : CapV) := by simp [boundC, CapV.live]
      rw [hb0]
      go_enter Try.func56, Try.ntmps56
      go_wp2_with (first | (go_at_call 65; refine (caphas_any _ _ _ _ _ _ _ _ h1 h2 h3).mono ?_; rintro e w1 ⟨rfl, rfl⟩) | (go_at_call 64; refine (sealed_any _ _ _ _ _ _ _).mono ?_; rintro e w1 ⟨rfl, rfl⟩) | (go_at_call 66; refine (clear_any _ _ _ _ _ _ _).mono ?_; rintro e w1 ⟨rfl, rfl⟩))
      exact bodyPost_ret (v := .agg #[.int .u64 cb, .int .u64 ct, .int .u64 ca, .int .i64 cp, .int .i64 cy, .bool false]) (by simp [results, Try.results56, go_sem, CapV.clear]) rfl ⟨rfl, (by repeat' (first | (with_reducible refine Below.setCell ?_ ?_ _) | (with_reducible refine bAlloc ?_ _) | (with_reducible refine bDrewN ?_ _) | (with_reducible refine Below.drew ?_) | (with_reducible exact Below.refl _ _) | (simp; done) | (simp; omega)))⟩
    · cases hh : hasC (⟨cb, ct, ca, cp, cy, true⟩ : CapV) n
      · have hb0 : boundC (⟨cb, ct, ca, cp, cy, true⟩ : CapV) n = CapV.clear (⟨cb, ct, ca, cp, cy, true⟩ : CapV) := by simp [boundC, CapV.live, hh]
        rw [hb0]
        go_enter Try.func56, Try.ntmps56
        go_wp2_with (first | (go_at_call 65; refine (caphas_any _ _ _ _ _ _ _ _ h1 h2 h3).mono ?_; rintro e w1 ⟨rfl, rfl⟩) | (go_at_call 64; refine (sealed_any _ _ _ _ _ _ _).mono ?_; rintro e w1 ⟨rfl, rfl⟩) | (go_at_call 66; refine (clear_any _ _ _ _ _ _ _).mono ?_; rintro e w1 ⟨rfl, rfl⟩))
        exact bodyPost_ret (v := .agg #[.int .u64 cb, .int .u64 ct, .int .u64 ca, .int .i64 cp, .int .i64 cy, .bool false]) (by simp [results, Try.results56, go_sem, CapV.clear]) rfl ⟨rfl, (by repeat' (first | (with_reducible refine Below.setCell ?_ ?_ _) | (with_reducible refine bAlloc ?_ _) | (with_reducible refine bDrewN ?_ _) | (with_reducible refine Below.drew ?_) | (with_reducible exact Below.refl _ _) | (simp; done) | (simp; omega)))⟩
      · have hb0 : boundC (⟨cb, ct, ca, cp, cy, true⟩ : CapV) n = ⟨ca, ca + n, ca, cp, cy, true⟩ := by simp [boundC, CapV.live, CapV.sealed, hs, hh]
        have hle : ca + n ≤ ct := by simp [hasC] at hh; omega
        rw [hb0]
        go_enter Try.func56, Try.ntmps56
        go_wp2_with (first | (go_at_call 65; refine (caphas_any _ _ _ _ _ _ _ _ h1 h2 h3).mono ?_; rintro e w1 ⟨rfl, rfl⟩) | (go_at_call 64; refine (sealed_any _ _ _ _ _ _ _).mono ?_; rintro e w1 ⟨rfl, rfl⟩) | (go_at_call 66; refine (clear_any _ _ _ _ _ _ _).mono ?_; rintro e w1 ⟨rfl, rfl⟩))
        exact bodyPost_ret (v := .agg #[.int .u64 ca, .int .u64 (ca + n), .int .u64 ca, .int .i64 cp, .int .i64 cy, .bool true]) (by simp [results, Try.results56, go_sem, CapV.clear]) rfl ⟨rfl, (by repeat' (first | (with_reducible refine Below.setCell ?_ ?_ _) | (with_reducible refine bAlloc ?_ _) | (with_reducible refine bDrewN ?_ _) | (with_reducible refine Below.drew ?_) | (with_reducible exact Below.refl _ _) | (simp; done) | (simp; omega)))⟩
end Go.Proofs.Ytjefkhieihigiaa.Ce

namespace Go.Proofs.Ytjefkhieihigiaa.Ce
set_option linter.unusedVariables false
set_option linter.unusedSimpArgs false
open Go.Joins Go.ChangeShapes Go.WideShapes Go.ChangeAt Go.RowKit

theorem root_x (x : Int) (w : World) :
    Calls Try.prog 57 #[.int .u64 x] w fun e w' => e = .returned (.agg #[.int .u64 0, .int .u64 x, .int .u64 0, .int .i64 255, .int .i64 (-1), .bool true]) ∧ Below w.heap.size w w' := root_any x w
theorem null_x (w : World) :
    Calls Try.prog 46 #[] w fun e w' => e = .returned (.agg #[.int .u64 0, .int .u64 0, .int .u64 0, .int .i64 0, .int .i64 (-1), .bool false]) ∧ Below w.heap.size w w' := null_any w
theorem move_x (b t a p q : Int) (w : World) :
    Calls Try.prog 47 #[.agg #[.int .u64 b, .int .u64 t, .int .u64 a, .int .i64 p, .int .i64 (-1), .bool true], .int .u64 q] w fun e w' => e = .returned (.agg #[.int .u64 b, .int .u64 t, .int .u64 q, .int .i64 p, .int .i64 (-1), .bool true]) ∧ Below w.heap.size w w' := move_any b t a p (-1) true q w
theorem bound_x (b t a p n y : Int) (w : World) (h1 : 0 ≤ a) (h2 : a < 18446744073709551616) (h3 : 0 ≤ n) (h4 : t < 18446744073709551616) (hb : b ≤ a) (hy : a + n = y) (ht : y ≤ t) :
    Calls Try.prog 56 #[.agg #[.int .u64 b, .int .u64 t, .int .u64 a, .int .i64 p, .int .i64 (-1), .bool true], .int .u64 n] w fun e w' => e = .returned (.agg #[.int .u64 a, .int .u64 y, .int .u64 a, .int .i64 p, .int .i64 (-1), .bool true]) ∧ Below w.heap.size w w' := by
  have e : boundC (⟨b, t, a, p, -1, true⟩ : CapV) n = ⟨a, y, a, p, -1, true⟩ := by
    have hh : hasC (⟨b, t, a, p, -1, true⟩ : CapV) n = true := by
      unfold hasC
      simp only [Bool.and_eq_true, decide_eq_true_eq]
      omega
    unfold boundC
    rw [hh, hy]
    rfl
  have h := bound_any b t a p (-1) true n w h1 h2 h3 h4
  rw [e] at h
  exact h
theorem and_255 (pm : Int) (h0 : 0 ≤ pm) (h1 : pm ≤ 255) : bits .and .i64 255 pm = pm := by
  have h := and_low8 255 pm (by decide)
  rw [show ((255 : Nat) : Int) = 255 from rfl] at h
  rw [h, Nat.and_comm]
  have h2 := Nat.and_two_pow_sub_one_eq_mod (pm % 256).toNat 8
  rw [show (2 : Nat) ^ 8 - 1 = 255 from rfl] at h2
  rw [h2]
  omega
theorem and_x (b t a pm : Int) (w : World) (h0 : 0 ≤ pm) (h1 : pm ≤ 255) :
    Calls Try.prog 55 #[.agg #[.int .u64 b, .int .u64 t, .int .u64 a, .int .i64 255, .int .i64 (-1), .bool true], .int .i64 pm] w fun e w' => e = .returned (.agg #[.int .u64 b, .int .u64 t, .int .u64 a, .int .i64 pm, .int .i64 (-1), .bool true]) ∧ Below w.heap.size w w' := by
  have h := and_any b t a 255 (-1) true pm w
  have e : andC (⟨b, t, a, 255, -1, true⟩ : CapV) pm = ⟨b, t, a, pm, -1, true⟩ := by
    unfold andC
    rw [and_255 pm h0 h1]
    rfl
  rw [e] at h
  exact h
theorem boxN6 {W : World} {B : Nat} {v0 v1 v2 v3 v4 v5 : Value} (h : BoxN W B #[v0, v1, v2, v3, v4, v5]) :
    (W.cell? ⟨B, 0, none⟩ = some v0 ∧ W.cell? ⟨B, 1, none⟩ = some v1 ∧ W.cell? ⟨B, 2, none⟩ = some v2 ∧ W.cell? ⟨B, 3, none⟩ = some v3 ∧ W.cell? ⟨B, 4, none⟩ = some v4 ∧ W.cell? ⟨B, 5, none⟩ = some v5) ∧
      (W.frozen? ⟨B, 0, none⟩ = false ∧ W.frozen? ⟨B, 1, none⟩ = false ∧ W.frozen? ⟨B, 2, none⟩ = false ∧ W.frozen? ⟨B, 3, none⟩ = false ∧ W.frozen? ⟨B, 4, none⟩ = false ∧ W.frozen? ⟨B, 5, none⟩ = false) :=
  ⟨⟨h.cell 0, h.cell 1, h.cell 2, h.cell 3, h.cell 4, h.cell 5⟩, ⟨h.frozen 0, h.frozen 1, h.frozen 2, h.frozen 3, h.frozen 4, h.frozen 5⟩⟩
theorem below_set6 {B b : Nat} {w W : World} {v0 v1 v2 v3 v4 v5 : Value} (h : Below B w W) (hb : B ≤ b) : Below B w ((((((W.setCell ⟨b, 0, none⟩ v0).setCell ⟨b, 1, none⟩ v1).setCell ⟨b, 2, none⟩ v2).setCell ⟨b, 3, none⟩ v3).setCell ⟨b, 4, none⟩ v4).setCell ⟨b, 5, none⟩ v5) :=
  Below.setCell (p := ⟨b, 5, none⟩) (Below.setCell (p := ⟨b, 4, none⟩) (Below.setCell (p := ⟨b, 3, none⟩) (Below.setCell (p := ⟨b, 2, none⟩) (Below.setCell (p := ⟨b, 1, none⟩) (Below.setCell (p := ⟨b, 0, none⟩) h hb _) hb _) hb _) hb _) hb _) hb _
end Go.Proofs.Ytjefkhieihigiaa.Ce

