/- Merged: CapM CapN CapA AbC. -/
import Derived.Test.YtjefkhieihigiaaGreatTa1
import Derived.Test.YtjefkhieihigiaaGreatRows
import Derived.Test.YtjefkhieihigiaaGreatWd1
import Derived.WalkKit
import Derived.ProofKit
import Derived.OpenShut
import Derived.Outline
import Derived.Deep.QuietTactic
import Derived.BigQuiet
import Derived.BigRegion
import Derived.LoopTactic
import Derived.Lib.Hide
namespace Go.Proofs.YtjefkhieihigiaaGreat.Ce
set_option linter.unusedVariables false
set_option linter.unusedSimpArgs false
open Go Go.RowKit

structure CapV where
  base : Int
  top : Int
  at_ : Int
  perms : Int
  ty : Int
  tag : Bool

def CapV.clear (c : CapV) : CapV := ⟨c.base, c.top, c.at_, c.perms, c.ty, false⟩
def CapV.sealed (c : CapV) : Bool := decide (0 ≤ c.ty)
def CapV.live (c : CapV) : Bool := c.tag && !c.sealed
def moveC (c : CapV) (to : Int) : CapV := ⟨c.base, c.top, to, c.perms, c.ty, c.live⟩
def hasC (c : CapV) (n : Int) : Bool := decide (c.base ≤ c.at_) && (decide (n ≤ 18446744073709551615 - c.at_) && decide (c.at_ + n ≤ c.top))
def boundC (c : CapV) (n : Int) : CapV := if c.live && hasC c n then ⟨c.at_, c.at_ + n, c.at_, c.perms, c.ty, true⟩ else c.clear
def andC (c : CapV) (perms : Int) : CapV := ⟨c.base, c.top, c.at_, bits .and .i64 c.perms perms, c.ty, c.live⟩
end Go.Proofs.YtjefkhieihigiaaGreat.Ce

namespace Go.Proofs.YtjefkhieihigiaaGreat.Ce
set_option linter.unusedVariables false
set_option linter.unusedSimpArgs false
open Go Go.RowKit

theorem ofInt64 (q : Int) : (BitVec.ofInt 64 q).toNat = (q % 18446744073709551616).toNat := by
  rw [BitVec.toNat_ofInt]; rfl
/-- a number of eight bits and any other one: the other one's lowest eight bits count -/
theorem and_low8 (p : Nat) (q : Int) (hp : p < 256) : bits .and .i64 (p : Int) q = ((p &&& (q % 256).toNat : Nat) : Int) := by
  have e : (BitVec.ofInt 64 (p : Int) &&& BitVec.ofInt 64 q).toNat = p &&& (q % 256).toNat := by
    rw [BitVec.toNat_and, ofInt64, ofInt64, show ((p : Int) % 18446744073709551616).toNat = p by omega]
    have h1 : p = p &&& 255 := by
      have := Nat.and_two_pow_sub_one_eq_mod p 8
      rw [show (2 : Nat) ^ 8 - 1 = 255 from rfl] at this
      rw [this]; omega
    have h2 : (q % 256).toNat = 255 &&& (q % 18446744073709551616).toNat := by
      have := Nat.and_two_pow_sub_one_eq_mod (q % 18446744073709551616).toNat 8
      rw [show (2 : Nat) ^ 8 - 1 = 255 from rfl] at this
      rw [Nat.and_comm, this]; omega
    rw [h2, ← Nat.and_assoc, ← h1]
  have hle : p &&& (q % 256).toNat ≤ p := Nat.and_le_left
  unfold bits
  show IntKind.i64.wrap ((BitVec.ofInt 64 (p : Int) &&& BitVec.ofInt 64 q).toNat : Int) = _
  rw [e, IntKind.wrap_i64]
  omega
end Go.Proofs.YtjefkhieihigiaaGreat.Ce

namespace Go.Proofs.YtjefkhieihigiaaGreat.Ce
set_option linter.unusedVariables false
set_option linter.unusedSimpArgs false
open Go.ChangeShapes Go.WideShapes Go.ChangeAt Go.RowKit

/-- behind a call that makes new blocks: old cells read as they did -/
theorem bcell {W w1 : World} (hb : Below W.heap.size W w1) : (∀ b o, b < W.heap.size → w1.cell? ⟨b, o, none⟩ = W.cell? ⟨b, o, none⟩) ∧ (∀ b o, b < W.heap.size → w1.frozen? ⟨b, o, none⟩ = W.frozen? ⟨b, o, none⟩) :=
  ⟨fun b o h => hb.cell (p := ⟨b, o, none⟩) h, fun b o h => hb.frozen (p := ⟨b, o, none⟩) h⟩

def intC (x : Int) : CapV := ⟨0, 0, x, 0, -1, false⟩
def rootC (x : Int) : CapV := ⟨0, x, 0, 255, -1, true⟩
theorem World.size_setCell' (w : World) (a : Addr) (v : Value) : (w.setCell a v).heap.size = w.heap.size := by simp
theorem clear_any (cb ct ca cp cy : Int) (cg : Bool) (w : World) :
    Calls Tryz.prog 84 #[.agg #[.int .u64 cb, .int .u64 ct, .int .u64 ca, .int .i64 cp, .int .i64 cy, .bool cg]] w fun e w' => e = .returned (.agg #[.int .u64 cb, .int .u64 ct, .int .u64 ca, .int .i64 cp, .int .i64 cy, .bool false]) ∧ (w.alloc (.cells #[.int .u64 cb, .int .u64 ct, .int .u64 ca, .int .i64 cp, .int .i64 cy, .bool false] 37)).alloc (.cells #[.int .u64 cb, .int .u64 ct, .int .u64 ca, .int .i64 cp, .int .i64 cy, .bool false] 37) = w' := by
  go_enter Tryz.func84, Tryz.ntmps84
  go_wp2
  exact bodyPost_ret (v := .agg #[.int .u64 cb, .int .u64 ct, .int .u64 ca, .int .i64 cp, .int .i64 cy, .bool false]) (by simp [results, Tryz.results84, go_sem, CapV.clear]) rfl ⟨rfl, rfl⟩
theorem int_any (x : Int) (w : World) :
    Calls Tryz.prog 74 #[.int .u64 x] w fun e w' => e = .returned (.agg #[.int .u64 (intC x).base, .int .u64 (intC x).top, .int .u64 (intC x).at_, .int .i64 (intC x).perms, .int .i64 (intC x).ty, .bool (intC x).tag]) ∧ w.alloc (.cells #[.int .u64 (intC x).base, .int .u64 (intC x).top, .int .u64 (intC x).at_, .int .i64 (intC x).perms, .int .i64 (intC x).ty, .bool (intC x).tag] 37) = w' := by
  go_enter Tryz.func74, Tryz.ntmps74
  go_wp2
  exact bodyPost_ret (v := .agg #[.int .u64 (intC x).base, .int .u64 (intC x).top, .int .u64 (intC x).at_, .int .i64 (intC x).perms, .int .i64 (intC x).ty, .bool (intC x).tag]) (by simp [results, Tryz.results74, go_sem, intC]) rfl ⟨rfl, rfl⟩
theorem null_any (w : World) :
    Calls Tryz.prog 57 #[] w fun e w' => e = .returned (.agg #[.int .u64 (intC 0).base, .int .u64 (intC 0).top, .int .u64 (intC 0).at_, .int .i64 (intC 0).perms, .int .i64 (intC 0).ty, .bool (intC 0).tag]) ∧ Below w.heap.size w w' := by
  go_enter Tryz.func57, Tryz.ntmps57
  go_wp2_with (go_at_call 74; refine (int_any _ _).mono ?_; rintro e w1 ⟨rfl, rfl⟩)
  exact bodyPost_ret (v := .agg #[.int .u64 (intC 0).base, .int .u64 (intC 0).top, .int .u64 (intC 0).at_, .int .i64 (intC 0).perms, .int .i64 (intC 0).ty, .bool (intC 0).tag]) (by simp [results, Tryz.results57, go_sem, intC]) rfl ⟨rfl, (by repeat' (first | (with_reducible refine Below.setCell ?_ ?_ _) | (with_reducible refine bAlloc ?_ _) | (with_reducible refine bDrewN ?_ _) | (with_reducible refine Below.drew ?_) | (with_reducible exact Below.refl _ _) | (simp; done) | (simp; omega)))⟩
theorem root_any (x : Int) (w : World) :
    Calls Tryz.prog 72 #[.int .u64 x] w fun e w' => e = .returned (.agg #[.int .u64 (rootC x).base, .int .u64 (rootC x).top, .int .u64 (rootC x).at_, .int .i64 (rootC x).perms, .int .i64 (rootC x).ty, .bool (rootC x).tag]) ∧ Below w.heap.size w w' := by
  go_enter Tryz.func72, Tryz.ntmps72
  go_wp2
  exact bodyPost_ret (v := .agg #[.int .u64 (rootC x).base, .int .u64 (rootC x).top, .int .u64 (rootC x).at_, .int .i64 (rootC x).perms, .int .i64 (rootC x).ty, .bool (rootC x).tag]) (by simp [results, Tryz.results72, go_sem, rootC]) rfl ⟨rfl, (by repeat' (first | (with_reducible refine Below.setCell ?_ ?_ _) | (with_reducible refine bAlloc ?_ _) | (with_reducible refine bDrewN ?_ _) | (with_reducible refine Below.drew ?_) | (with_reducible exact Below.refl _ _) | (simp; done) | (simp; omega)))⟩
theorem sealed_any (cb ct ca cp cy : Int) (cg : Bool) (w : World) :
    Calls Tryz.prog 82 #[.agg #[.int .u64 cb, .int .u64 ct, .int .u64 ca, .int .i64 cp, .int .i64 cy, .bool cg]] w fun e w' => e = .returned (.bool (decide (0 ≤ cy))) ∧ w.alloc (.cells #[.int .u64 cb, .int .u64 ct, .int .u64 ca, .int .i64 cp, .int .i64 cy, .bool cg] 37) = w' := by
  go_enter Tryz.func82, Tryz.ntmps82
  go_wp2
  go_ret
  exact ⟨rfl, rfl⟩
theorem unless_no (cb ct ca cp cy : Int) (cg : Bool) (db dt da dp dy : Int) (dg : Bool) (w : World) (hs : cy < 0) :
    Calls Tryz.prog 75 #[.agg #[.int .u64 cb, .int .u64 ct, .int .u64 ca, .int .i64 cp, .int .i64 cy, .bool cg], .agg #[.int .u64 db, .int .u64 dt, .int .u64 da, .int .i64 dp, .int .i64 dy, .bool dg]] w fun e w' => e = .returned (.agg #[.int .u64 db, .int .u64 dt, .int .u64 da, .int .i64 dp, .int .i64 dy, .bool dg]) ∧ Below w.heap.size w w' := by
  go_enter Tryz.func75, Tryz.ntmps75
  go_wp2
  exact bodyPost_ret (v := .agg #[.int .u64 db, .int .u64 dt, .int .u64 da, .int .i64 dp, .int .i64 dy, .bool dg]) (by simp [results, Tryz.results75, go_sem]) rfl ⟨rfl, (by repeat' (first | (with_reducible refine Below.setCell ?_ ?_ _) | (with_reducible refine bAlloc ?_ _) | (with_reducible refine bDrewN ?_ _) | (with_reducible refine Below.drew ?_) | (with_reducible exact Below.refl _ _) | (simp; done) | (simp; omega)))⟩
theorem unless_yes (cb ct ca cp cy : Int) (cg : Bool) (db dt da dp dy : Int) (dg : Bool) (w : World) (hs : 0 ≤ cy) :
    Calls Tryz.prog 75 #[.agg #[.int .u64 cb, .int .u64 ct, .int .u64 ca, .int .i64 cp, .int .i64 cy, .bool cg], .agg #[.int .u64 db, .int .u64 dt, .int .u64 da, .int .i64 dp, .int .i64 dy, .bool dg]] w fun e w' => e = .returned (.agg #[.int .u64 db, .int .u64 dt, .int .u64 da, .int .i64 dp, .int .i64 dy, .bool false]) ∧ Below w.heap.size w w' := by
  go_enter Tryz.func75, Tryz.ntmps75
  go_wp2_with (first | (go_at_call 84; refine (clear_any _ _ _ _ _ _ _).mono ?_; rintro e w1 ⟨rfl, rfl⟩) | (go_at_call 82; refine (sealed_any _ _ _ _ _ _ _).mono ?_; rintro e w1 ⟨rfl, rfl⟩))
  exact bodyPost_ret (v := .agg #[.int .u64 db, .int .u64 dt, .int .u64 da, .int .i64 dp, .int .i64 dy, .bool false]) (by simp [results, Tryz.results75, go_sem]) rfl ⟨rfl, (by repeat' (first | (with_reducible refine Below.setCell ?_ ?_ _) | (with_reducible refine bAlloc ?_ _) | (with_reducible refine bDrewN ?_ _) | (with_reducible refine Below.drew ?_) | (with_reducible exact Below.refl _ _) | (simp; done) | (simp; omega)))⟩
set_option maxHeartbeats 1000000 in
theorem move_any (cb ct ca cp cy : Int) (cg : Bool) (to : Int) (w : World) :
    Calls Tryz.prog 58 #[.agg #[.int .u64 cb, .int .u64 ct, .int .u64 ca, .int .i64 cp, .int .i64 cy, .bool cg], .int .u64 to] w fun e w' => e = .returned (.agg #[.int .u64 (moveC (⟨cb, ct, ca, cp, cy, cg⟩ : CapV) to).base, .int .u64 (moveC (⟨cb, ct, ca, cp, cy, cg⟩ : CapV) to).top, .int .u64 (moveC (⟨cb, ct, ca, cp, cy, cg⟩ : CapV) to).at_, .int .i64 (moveC (⟨cb, ct, ca, cp, cy, cg⟩ : CapV) to).perms, .int .i64 (moveC (⟨cb, ct, ca, cp, cy, cg⟩ : CapV) to).ty, .bool (moveC (⟨cb, ct, ca, cp, cy, cg⟩ : CapV) to).tag]) ∧ Below w.heap.size w w' := by
  by_cases hs : 0 ≤ cy
  · go_enter Tryz.func58, Tryz.ntmps58
    go_wp2_with (go_at_call 75; refine (unless_yes _ _ _ _ _ _ _ _ _ _ _ _ _ hs).mono ?_; rintro e w1 ⟨rfl, hb⟩; obtain ⟨hc, hf⟩ := bcell hb; have hz := hb.size; simp only [size_alloc, World.size_setCell'] at hz; (try (have hz0 : w.heap.size < w1.heap.size := by omega)); (try (have hz1 : w.heap.size + 1 < w1.heap.size := by omega)); (try (have hz2 : w.heap.size + 1 + 1 < w1.heap.size := by omega)); (try (have hz3 : w.heap.size + 1 + 1 + 1 < w1.heap.size := by omega)); clear hz; have HB := Lib.hid (bTrans (w := w) (by repeat' (first | (with_reducible refine Below.setCell ?_ ?_ _) | (with_reducible refine bAlloc ?_ _) | (with_reducible refine bDrewN ?_ _) | (with_reducible refine Below.drew ?_) | (with_reducible exact Below.refl _ _) | (simp; done) | (simp; omega))) hb); clear hb)
    exact bodyPost_ret (v := .agg #[.int .u64 (moveC (⟨cb, ct, ca, cp, cy, cg⟩ : CapV) to).base, .int .u64 (moveC (⟨cb, ct, ca, cp, cy, cg⟩ : CapV) to).top, .int .u64 (moveC (⟨cb, ct, ca, cp, cy, cg⟩ : CapV) to).at_, .int .i64 (moveC (⟨cb, ct, ca, cp, cy, cg⟩ : CapV) to).perms, .int .i64 (moveC (⟨cb, ct, ca, cp, cy, cg⟩ : CapV) to).ty, .bool (moveC (⟨cb, ct, ca, cp, cy, cg⟩ : CapV) to).tag]) (by simp [results, Tryz.results58, go_sem, moveC, andC, CapV.live, CapV.sealed, hs, hc]) rfl ⟨rfl, (by repeat' (first | (with_reducible refine Below.setCell ?_ ?_ _) | (with_reducible refine bAlloc ?_ _) | (with_reducible refine bDrewN ?_ _) | (with_reducible refine Below.drew ?_) | (with_reducible exact HB.out) | (with_reducible exact Below.refl _ _) | (simp; done) | (simp; omega)))⟩
  · go_enter Tryz.func58, Tryz.ntmps58
    go_wp2_with (go_at_call 75; refine (unless_no _ _ _ _ _ _ _ _ _ _ _ _ _ (by omega)).mono ?_; rintro e w1 ⟨rfl, hb⟩; obtain ⟨hc, hf⟩ := bcell hb; have hz := hb.size; simp only [size_alloc, World.size_setCell'] at hz; (try (have hz0 : w.heap.size < w1.heap.size := by omega)); (try (have hz1 : w.heap.size + 1 < w1.heap.size := by omega)); (try (have hz2 : w.heap.size + 1 + 1 < w1.heap.size := by omega)); (try (have hz3 : w.heap.size + 1 + 1 + 1 < w1.heap.size := by omega)); clear hz; have HB := Lib.hid (bTrans (w := w) (by repeat' (first | (with_reducible refine Below.setCell ?_ ?_ _) | (with_reducible refine bAlloc ?_ _) | (with_reducible refine bDrewN ?_ _) | (with_reducible refine Below.drew ?_) | (with_reducible exact Below.refl _ _) | (simp; done) | (simp; omega))) hb); clear hb)
    exact bodyPost_ret (v := .agg #[.int .u64 (moveC (⟨cb, ct, ca, cp, cy, cg⟩ : CapV) to).base, .int .u64 (moveC (⟨cb, ct, ca, cp, cy, cg⟩ : CapV) to).top, .int .u64 (moveC (⟨cb, ct, ca, cp, cy, cg⟩ : CapV) to).at_, .int .i64 (moveC (⟨cb, ct, ca, cp, cy, cg⟩ : CapV) to).perms, .int .i64 (moveC (⟨cb, ct, ca, cp, cy, cg⟩ : CapV) to).ty, .bool (moveC (⟨cb, ct, ca, cp, cy, cg⟩ : CapV) to).tag]) (by simp [results, Tryz.results58, go_sem, moveC, andC, CapV.live, CapV.sealed, hs, hc]) rfl ⟨rfl, (by repeat' (first | (with_reducible refine Below.setCell ?_ ?_ _) | (with_reducible refine bAlloc ?_ _) | (with_reducible refine bDrewN ?_ _) | (with_reducible refine Below.drew ?_) | (with_reducible exact HB.out) | (with_reducible exact Below.refl _ _) | (simp; done) | (simp; omega)))⟩
set_option maxHeartbeats 1000000 in
theorem and_any (cb ct ca cp cy : Int) (cg : Bool) (p : Int) (w : World) :
    Calls Tryz.prog 70 #[.agg #[.int .u64 cb, .int .u64 ct, .int .u64 ca, .int .i64 cp, .int .i64 cy, .bool cg], .int .i64 p] w fun e w' => e = .returned (.agg #[.int .u64 (andC (⟨cb, ct, ca, cp, cy, cg⟩ : CapV) p).base, .int .u64 (andC (⟨cb, ct, ca, cp, cy, cg⟩ : CapV) p).top, .int .u64 (andC (⟨cb, ct, ca, cp, cy, cg⟩ : CapV) p).at_, .int .i64 (andC (⟨cb, ct, ca, cp, cy, cg⟩ : CapV) p).perms, .int .i64 (andC (⟨cb, ct, ca, cp, cy, cg⟩ : CapV) p).ty, .bool (andC (⟨cb, ct, ca, cp, cy, cg⟩ : CapV) p).tag]) ∧ Below w.heap.size w w' := by
  by_cases hs : 0 ≤ cy
  · go_enter Tryz.func70, Tryz.ntmps70
    go_wp2_with (go_at_call 75; refine (unless_yes _ _ _ _ _ _ _ _ _ _ _ _ _ hs).mono ?_; rintro e w1 ⟨rfl, hb⟩; obtain ⟨hc, hf⟩ := bcell hb; have hz := hb.size; simp only [size_alloc, World.size_setCell'] at hz; (try (have hz0 : w.heap.size < w1.heap.size := by omega)); (try (have hz1 : w.heap.size + 1 < w1.heap.size := by omega)); (try (have hz2 : w.heap.size + 1 + 1 < w1.heap.size := by omega)); (try (have hz3 : w.heap.size + 1 + 1 + 1 < w1.heap.size := by omega)); clear hz; have HB := Lib.hid (bTrans (w := w) (by repeat' (first | (with_reducible refine Below.setCell ?_ ?_ _) | (with_reducible refine bAlloc ?_ _) | (with_reducible refine bDrewN ?_ _) | (with_reducible refine Below.drew ?_) | (with_reducible exact Below.refl _ _) | (simp; done) | (simp; omega))) hb); clear hb)
    exact bodyPost_ret (v := .agg #[.int .u64 (andC (⟨cb, ct, ca, cp, cy, cg⟩ : CapV) p).base, .int .u64 (andC (⟨cb, ct, ca, cp, cy, cg⟩ : CapV) p).top, .int .u64 (andC (⟨cb, ct, ca, cp, cy, cg⟩ : CapV) p).at_, .int .i64 (andC (⟨cb, ct, ca, cp, cy, cg⟩ : CapV) p).perms, .int .i64 (andC (⟨cb, ct, ca, cp, cy, cg⟩ : CapV) p).ty, .bool (andC (⟨cb, ct, ca, cp, cy, cg⟩ : CapV) p).tag]) (by simp [results, Tryz.results70, go_sem, moveC, andC, CapV.live, CapV.sealed, hs, hc]) rfl ⟨rfl, (by repeat' (first | (with_reducible refine Below.setCell ?_ ?_ _) | (with_reducible refine bAlloc ?_ _) | (with_reducible refine bDrewN ?_ _) | (with_reducible refine Below.drew ?_) | (with_reducible exact HB.out) | (with_reducible exact Below.refl _ _) | (simp; done) | (simp; omega)))⟩
  · go_enter Tryz.func70, Tryz.ntmps70
    go_wp2_with (go_at_call 75; refine (unless_no _ _ _ _ _ _ _ _ _ _ _ _ _ (by omega)).mono ?_; rintro e w1 ⟨rfl, hb⟩; obtain ⟨hc, hf⟩ := bcell hb; have hz := hb.size; simp only [size_alloc, World.size_setCell'] at hz; (try (have hz0 : w.heap.size < w1.heap.size := by omega)); (try (have hz1 : w.heap.size + 1 < w1.heap.size := by omega)); (try (have hz2 : w.heap.size + 1 + 1 < w1.heap.size := by omega)); (try (have hz3 : w.heap.size + 1 + 1 + 1 < w1.heap.size := by omega)); clear hz; have HB := Lib.hid (bTrans (w := w) (by repeat' (first | (with_reducible refine Below.setCell ?_ ?_ _) | (with_reducible refine bAlloc ?_ _) | (with_reducible refine bDrewN ?_ _) | (with_reducible refine Below.drew ?_) | (with_reducible exact Below.refl _ _) | (simp; done) | (simp; omega))) hb); clear hb)
    exact bodyPost_ret (v := .agg #[.int .u64 (andC (⟨cb, ct, ca, cp, cy, cg⟩ : CapV) p).base, .int .u64 (andC (⟨cb, ct, ca, cp, cy, cg⟩ : CapV) p).top, .int .u64 (andC (⟨cb, ct, ca, cp, cy, cg⟩ : CapV) p).at_, .int .i64 (andC (⟨cb, ct, ca, cp, cy, cg⟩ : CapV) p).perms, .int .i64 (andC (⟨cb, ct, ca, cp, cy, cg⟩ : CapV) p).ty, .bool (andC (⟨cb, ct, ca, cp, cy, cg⟩ : CapV) p).tag]) (by simp [results, Tryz.results70, go_sem, moveC, andC, CapV.live, CapV.sealed, hs, hc]) rfl ⟨rfl, (by repeat' (first | (with_reducible refine Below.setCell ?_ ?_ _) | (with_reducible refine bAlloc ?_ _) | (with_reducible refine bDrewN ?_ _) | (with_reducible refine Below.drew ?_) | (with_reducible exact HB.out) | (with_reducible exact Below.refl _ _) | (simp; done) | (simp; omega)))⟩
theorem caphas_any (cb ct ca cp cy : Int) (cg : Bool) (n : Int) (w : World) (h1 : 0 ≤ ca) (h2 : ca < 18446744073709551616) (h3 : 0 ≤ n) :
    Calls Tryz.prog 83 #[.agg #[.int .u64 cb, .int .u64 ct, .int .u64 ca, .int .i64 cp, .int .i64 cy, .bool cg], .int .u64 n] w fun e w' => e = .returned (.bool (hasC (⟨cb, ct, ca, cp, cy, cg⟩ : CapV) n)) ∧ w.alloc (.cells #[.int .u64 cb, .int .u64 ct, .int .u64 ca, .int .i64 cp, .int .i64 cy, .bool cg] 37) = w' := by
  by_cases a1 : cb ≤ ca
  · have ta1 : decide (cb ≤ ca) = true := decide_eq_true a1
    have Ha1 := Lib.hid ta1
    by_cases a2 : n ≤ 18446744073709551615 - ca
    · have ta2 : decide (n ≤ 18446744073709551615 - ca) = true := decide_eq_true a2
      have Ha2 := Lib.hid ta2
      go_enter Tryz.func83, Tryz.ntmps83
      go_wp2
      go_ret
      exact ⟨ret_bool (by simp only [hasC, Ha1.out, Ha2.out, Bool.false_and, Bool.and_false, Bool.true_and, Bool.and_true, Bool.not_true, Bool.not_false, Bool.false_or, Bool.or_false, Bool.true_or, Bool.or_true, if_true, if_false, Bool.false_eq_true]), rfl⟩
    · have ta2 : decide (n ≤ 18446744073709551615 - ca) = false := decide_eq_false a2
      have Ha2 := Lib.hid ta2
      go_enter Tryz.func83, Tryz.ntmps83
      go_wp2
      go_ret
      exact ⟨ret_bool (by simp only [hasC, Ha1.out, Ha2.out, Bool.false_and, Bool.and_false, Bool.true_and, Bool.and_true, Bool.not_true, Bool.not_false, Bool.false_or, Bool.or_false, Bool.true_or, Bool.or_true, if_true, if_false, Bool.false_eq_true]), rfl⟩
  · have ta1 : decide (cb ≤ ca) = false := decide_eq_false a1
    have Ha1 := Lib.hid ta1
    go_enter Tryz.func83, Tryz.ntmps83
    go_wp2
    go_ret
    exact ⟨ret_bool (by simp only [hasC, Ha1.out, Bool.false_and, Bool.and_false, Bool.true_and, Bool.and_true, Bool.not_true, Bool.not_false, Bool.false_or, Bool.or_false, Bool.true_or, Bool.or_true, if_true, if_false, Bool.false_eq_true]), rfl⟩
theorem bound_any (cb ct ca cp cy : Int) (cg : Bool) (n : Int) (w : World) (h1 : 0 ≤ ca) (h2 : ca < 18446744073709551616) (h3 : 0 ≤ n) (h4 : ct < 18446744073709551616) :
    Calls Tryz.prog 71 #[.agg #[.int .u64 cb, .int .u64 ct, .int .u64 ca, .int .i64 cp, .int .i64 cy, .bool cg], .int .u64 n] w fun e w' => e = .returned (.agg #[.int .u64 (boundC (⟨cb, ct, ca, cp, cy, cg⟩ : CapV) n).base, .int .u64 (boundC (⟨cb, ct, ca, cp, cy, cg⟩ : CapV) n).top, .int .u64 (boundC (⟨cb, ct, ca, cp, cy, cg⟩ : CapV) n).at_, .int .i64 (boundC (⟨cb, ct, ca, cp, cy, cg⟩ : CapV) n).perms, .int .i64 (boundC (⟨cb, ct, ca, cp, cy, cg⟩ : CapV) n).ty, .bool (boundC (⟨cb, ct, ca, cp, cy, cg⟩ : CapV) n).tag]) ∧ Below w.heap.size w w' := by
  by_cases hs : 0 ≤ cy
  · have hb0 : boundC (⟨cb, ct, ca, cp, cy, cg⟩ : CapV) n = CapV.clear (⟨cb, ct, ca, cp, cy, cg⟩ : CapV) := by simp [boundC, CapV.live, CapV.sealed, hs]
    rw [hb0]
    cases cg
    all_goals
      go_enter Tryz.func71, Tryz.ntmps71
      go_wp2_with (first | (go_at_call 83; refine (caphas_any _ _ _ _ _ _ _ _ h1 h2 h3).mono ?_; rintro e w1 ⟨rfl, rfl⟩) | (go_at_call 82; refine (sealed_any _ _ _ _ _ _ _).mono ?_; rintro e w1 ⟨rfl, rfl⟩) | (go_at_call 84; refine (clear_any _ _ _ _ _ _ _).mono ?_; rintro e w1 ⟨rfl, rfl⟩))
      exact bodyPost_ret (v := .agg #[.int .u64 cb, .int .u64 ct, .int .u64 ca, .int .i64 cp, .int .i64 cy, .bool false]) (by simp [results, Tryz.results71, go_sem, CapV.clear]) rfl ⟨rfl, (by repeat' (first | (with_reducible refine Below.setCell ?_ ?_ _) | (with_reducible refine bAlloc ?_ _) | (with_reducible refine bDrewN ?_ _) | (with_reducible refine Below.drew ?_) | (with_reducible exact Below.refl _ _) | (simp; done) | (simp; omega)))⟩
  · cases cg
    · have hb0 : boundC (⟨cb, ct, ca, cp, cy, false⟩ : CapV) n = CapV.clear (⟨cb, ct, ca, cp, cy, false⟩ : CapV) := by simp [boundC, CapV.live]
      rw [hb0]
      go_enter Tryz.func71, Tryz.ntmps71
      go_wp2_with (first | (go_at_call 83; refine (caphas_any _ _ _ _ _ _ _ _ h1 h2 h3).mono ?_; rintro e w1 ⟨rfl, rfl⟩) | (go_at_call 82; refine (sealed_any _ _ _ _ _ _ _).mono ?_; rintro e w1 ⟨rfl, rfl⟩) | (go_at_call 84; refine (clear_any _ _ _ _ _ _ _).mono ?_; rintro e w1 ⟨rfl, rfl⟩))
      exact bodyPost_ret (v := .agg #[.int .u64 cb, .int .u64 ct, .int .u64 ca, .int .i64 cp, .int .i64 cy, .bool false]) (by simp [results, Tryz.results71, go_sem, CapV.clear]) rfl ⟨rfl, (by repeat' (first | (with_reducible refine Below.setCell ?_ ?_ _) | (with_reducible refine bAlloc ?_ _) | (with_reducible refine bDrewN ?_ _) | (with_reducible refine Below.drew ?_) | (with_reducible exact Below.refl _ _) | (simp; done) | (simp; omega)))⟩
    · cases hh : hasC (⟨cb, ct, ca, cp, cy, true⟩ : CapV) n
      · have hb0 : boundC (⟨cb, ct, ca, cp, cy, true⟩ : CapV) n = CapV.clear (⟨cb, ct, ca, cp, cy, true⟩ : CapV) := by simp [boundC, CapV.live, hh]
        rw [hb0]
        go_enter Tryz.func71, Tryz.ntmps71
        go_wp2_with (first | (go_at_call 83; refine (caphas_any _ _ _ _ _ _ _ _ h1 h2 h3).mono ?_; rintro e w1 ⟨rfl, rfl⟩) | (go_at_call 82; refine (sealed_any _ _ _ _ _ _ _).mono ?_; rintro e w1 ⟨rfl, rfl⟩) | (go_at_call 84; refine (clear_any _ _ _ _ _ _ _).mono ?_; rintro e w1 ⟨rfl, rfl⟩))
        exact bodyPost_ret (v := .agg #[.int .u64 cb, .int .u64 ct, .int .u64 ca, .int .i64 cp, .int .i64 cy, .bool false]) (by simp [results, Tryz.results71, go_sem, CapV.clear]) rfl ⟨rfl, (by repeat' (first | (with_reducible refine Below.setCell ?_ ?_ _) | (with_reducible refine bAlloc ?_ _) | (with_reducible refine bDrewN ?_ _) | (with_reducible refine Below.drew ?_) | (with_reducible exact Below.refl _ _) | (simp; done) | (simp; omega)))⟩
      · have hb0 : boundC (⟨cb, ct, ca, cp, cy, true⟩ : CapV) n = ⟨ca, ca + n, ca, cp, cy, true⟩ := by simp [boundC, CapV.live, CapV.sealed, hs, hh]
        have hle : ca + n ≤ ct := by simp [hasC] at hh; omega
        rw [hb0]
        go_enter Tryz.func71, Tryz.ntmps71
        go_wp2_with (first | (go_at_call 83; refine (caphas_any _ _ _ _ _ _ _ _ h1 h2 h3).mono ?_; rintro e w1 ⟨rfl, rfl⟩) | (go_at_call 82; refine (sealed_any _ _ _ _ _ _ _).mono ?_; rintro e w1 ⟨rfl, rfl⟩) | (go_at_call 84; refine (clear_any _ _ _ _ _ _ _).mono ?_; rintro e w1 ⟨rfl, rfl⟩))
        exact bodyPost_ret (v := .agg #[.int .u64 ca, .int .u64 (ca + n), .int .u64 ca, .int .i64 cp, .int .i64 cy, .bool true]) (by simp [results, Tryz.results71, go_sem, CapV.clear]) rfl ⟨rfl, (by repeat' (first | (with_reducible refine Below.setCell ?_ ?_ _) | (with_reducible refine bAlloc ?_ _) | (with_reducible refine bDrewN ?_ _) | (with_reducible refine Below.drew ?_) | (with_reducible exact Below.refl _ _) | (simp; done) | (simp; omega)))⟩
end Go.Proofs.YtjefkhieihigiaaGreat.Ce

namespace Go.Proofs.YtjefkhieihigiaaGreat.Ce
set_option linter.unusedVariables false
set_option linter.unusedSimpArgs false
open Go.Joins Go.ChangeShapes Go.WideShapes Go.ChangeAt Go.RowKit

theorem root_x (x : Int) (w : World) :
    Calls Tryz.prog 72 #[.int .u64 x] w fun e w' => e = .returned (.agg #[.int .u64 0, .int .u64 x, .int .u64 0, .int .i64 255, .int .i64 (-1), .bool true]) ∧ Below w.heap.size w w' := root_any x w
theorem null_x (w : World) :
    Calls Tryz.prog 57 #[] w fun e w' => e = .returned (.agg #[.int .u64 0, .int .u64 0, .int .u64 0, .int .i64 0, .int .i64 (-1), .bool false]) ∧ Below w.heap.size w w' := null_any w
theorem move_x (b t a p q : Int) (w : World) :
    Calls Tryz.prog 58 #[.agg #[.int .u64 b, .int .u64 t, .int .u64 a, .int .i64 p, .int .i64 (-1), .bool true], .int .u64 q] w fun e w' => e = .returned (.agg #[.int .u64 b, .int .u64 t, .int .u64 q, .int .i64 p, .int .i64 (-1), .bool true]) ∧ Below w.heap.size w w' := move_any b t a p (-1) true q w
theorem bound_x (b t a p n y : Int) (w : World) (h1 : 0 ≤ a) (h2 : a < 18446744073709551616) (h3 : 0 ≤ n) (h4 : t < 18446744073709551616) (hb : b ≤ a) (hy : a + n = y) (ht : y ≤ t) :
    Calls Tryz.prog 71 #[.agg #[.int .u64 b, .int .u64 t, .int .u64 a, .int .i64 p, .int .i64 (-1), .bool true], .int .u64 n] w fun e w' => e = .returned (.agg #[.int .u64 a, .int .u64 y, .int .u64 a, .int .i64 p, .int .i64 (-1), .bool true]) ∧ Below w.heap.size w w' := by
  have e : boundC (⟨b, t, a, p, -1, true⟩ : CapV) n = ⟨a, y, a, p, -1, true⟩ := by
    have hh : hasC (⟨b, t, a, p, -1, true⟩ : CapV) n = true := by
      unfold hasC
      simp only [Bool.and_eq_true, decide_eq_true_eq]
      omega
    unfold boundC
    rw [hh, hy]
    rfl
  have h := bound_any b t a p (-1) true n w h1 h2 h3 h4
  rw [e] at h
  exact h
theorem and_255 (pm : Int) (h0 : 0 ≤ pm) (h1 : pm ≤ 255) : bits .and .i64 255 pm = pm := by
  have h := and_low8 255 pm (by decide)
  rw [show ((255 : Nat) : Int) = 255 from rfl] at h
  rw [h, Nat.and_comm]
  have h2 := Nat.and_two_pow_sub_one_eq_mod (pm % 256).toNat 8
  rw [show (2 : Nat) ^ 8 - 1 = 255 from rfl] at h2
  rw [h2]
  omega
theorem and_x (b t a pm : Int) (w : World) (h0 : 0 ≤ pm) (h1 : pm ≤ 255) :
    Calls Tryz.prog 70 #[.agg #[.int .u64 b, .int .u64 t, .int .u64 a, .int .i64 255, .int .i64 (-1), .bool true], .int .i64 pm] w fun e w' => e = .returned (.agg #[.int .u64 b, .int .u64 t, .int .u64 a, .int .i64 pm, .int .i64 (-1), .bool true]) ∧ Below w.heap.size w w' := by
  have h := and_any b t a 255 (-1) true pm w
  have e : andC (⟨b, t, a, 255, -1, true⟩ : CapV) pm = ⟨b, t, a, pm, -1, true⟩ := by
    unfold andC
    rw [and_255 pm h0 h1]
    rfl
  rw [e] at h
  exact h
theorem boxN6 {W : World} {B : Nat} {v0 v1 v2 v3 v4 v5 : Value} (h : BoxN W B #[v0, v1, v2, v3, v4, v5]) :
    (W.cell? ⟨B, 0, none⟩ = some v0 ∧ W.cell? ⟨B, 1, none⟩ = some v1 ∧ W.cell? ⟨B, 2, none⟩ = some v2 ∧ W.cell? ⟨B, 3, none⟩ = some v3 ∧ W.cell? ⟨B, 4, none⟩ = some v4 ∧ W.cell? ⟨B, 5, none⟩ = some v5) ∧
      (W.frozen? ⟨B, 0, none⟩ = false ∧ W.frozen? ⟨B, 1, none⟩ = false ∧ W.frozen? ⟨B, 2, none⟩ = false ∧ W.frozen? ⟨B, 3, none⟩ = false ∧ W.frozen? ⟨B, 4, none⟩ = false ∧ W.frozen? ⟨B, 5, none⟩ = false) :=
  ⟨⟨h.cell 0, h.cell 1, h.cell 2, h.cell 3, h.cell 4, h.cell 5⟩, ⟨h.frozen 0, h.frozen 1, h.frozen 2, h.frozen 3, h.frozen 4, h.frozen 5⟩⟩
theorem below_set6 {B b : Nat} {w W : World} {v0 v1 v2 v3 v4 v5 : Value} (h : Below B w W) (hb : B ≤ b) : Below B w ((((((W.setCell ⟨b, 0, none⟩ v0).setCell ⟨b, 1, none⟩ v1).setCell ⟨b, 2, none⟩ v2).setCell ⟨b, 3, none⟩ v3).setCell ⟨b, 4, none⟩ v4).setCell ⟨b, 5, none⟩ v5) :=
  Below.setCell (p := ⟨b, 5, none⟩) (Below.setCell (p := ⟨b, 4, none⟩) (Below.setCell (p := ⟨b, 3, none⟩) (Below.setCell (p := ⟨b, 2, none⟩) (Below.setCell (p := ⟨b, 1, none⟩) (Below.setCell (p := ⟨b, 0, none⟩) h hb _) hb _) hb _) hb _) hb _) hb _
end Go.Proofs.YtjefkhieihigiaaGreat.Ce

