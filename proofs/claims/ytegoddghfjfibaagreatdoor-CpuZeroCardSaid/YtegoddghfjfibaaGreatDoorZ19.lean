/- CapA -/
import Derived.Test.YtegoddghfjfibaaGreatDoorRows
import Derived.Test.YtegoddghfjfibaaGreatDoorZ18
import Derived.Test.YtegoddghfjfibaaGreatDoorZ01
import Derived.WalkKit
import Derived.ProofKit
import Derived.OpenShut
import Derived.Outline
import Derived.Deep.QuietTactic
import Derived.BigQuiet
import Derived.BigRegion
import Derived.LoopTactic
import Derived.Lib.Hide
namespace Go.Proofs.YtegoddghfjfibaaGreatDoor.Ce
set_option linter.unusedVariables false
set_option linter.unusedSimpArgs false
open Go.ChangeShapes Go.WideShapes Go.ChangeAt Go.RowKit

/-- behind a call that makes new blocks: old cells read as they did -/
theorem bcell {W w1 : World} (hb : Below W.heap.size W w1) : (∀ b o, b < W.heap.size → w1.cell? ⟨b, o, none⟩ = W.cell? ⟨b, o, none⟩) ∧ (∀ b o, b < W.heap.size → w1.frozen? ⟨b, o, none⟩ = W.frozen? ⟨b, o, none⟩) :=
  ⟨fun b o h => hb.cell (p := ⟨b, o, none⟩) h, fun b o h => hb.frozen (p := ⟨b, o, none⟩) h⟩

def intC (x : Int) : CapV := ⟨0, 0, x, 0, -1, false⟩
theorem World.size_setCell' (w : World) (a : Addr) (v : Value) : (w.setCell a v).heap.size = w.heap.size := by simp
theorem clear_any (cb ct ca cp cy : Int) (cg : Bool) (w : World) :
    Calls Tryz.prog 147 #[.agg #[.int .u64 cb, .int .u64 ct, .int .u64 ca, .int .i64 cp, .int .i64 cy, .bool cg]] w fun e w' => e = .returned (.agg #[.int .u64 cb, .int .u64 ct, .int .u64 ca, .int .i64 cp, .int .i64 cy, .bool false]) ∧ (w.alloc (.cells #[.int .u64 cb, .int .u64 ct, .int .u64 ca, .int .i64 cp, .int .i64 cy, .bool false] 24)).alloc (.cells #[.int .u64 cb, .int .u64 ct, .int .u64 ca, .int .i64 cp, .int .i64 cy, .bool false] 24) = w' := by
  go_enter Tryz.func147, Tryz.ntmps147
  go_wp2
  exact bodyPost_ret (v := .agg #[.int .u64 cb, .int .u64 ct, .int .u64 ca, .int .i64 cp, .int .i64 cy, .bool false]) (by simp [results, Tryz.results147, go_sem, CapV.clear]) rfl ⟨rfl, rfl⟩
theorem int_any (x : Int) (w : World) :
    Calls Tryz.prog 116 #[.int .u64 x] w fun e w' => e = .returned (.agg #[.int .u64 (intC x).base, .int .u64 (intC x).top, .int .u64 (intC x).at_, .int .i64 (intC x).perms, .int .i64 (intC x).ty, .bool (intC x).tag]) ∧ w.alloc (.cells #[.int .u64 (intC x).base, .int .u64 (intC x).top, .int .u64 (intC x).at_, .int .i64 (intC x).perms, .int .i64 (intC x).ty, .bool (intC x).tag] 24) = w' := by
  go_enter Tryz.func116, Tryz.ntmps116
  go_wp2
  exact bodyPost_ret (v := .agg #[.int .u64 (intC x).base, .int .u64 (intC x).top, .int .u64 (intC x).at_, .int .i64 (intC x).perms, .int .i64 (intC x).ty, .bool (intC x).tag]) (by simp [results, Tryz.results116, go_sem, intC]) rfl ⟨rfl, rfl⟩
theorem null_any (w : World) :
    Calls Tryz.prog 48 #[] w fun e w' => e = .returned (.agg #[.int .u64 (intC 0).base, .int .u64 (intC 0).top, .int .u64 (intC 0).at_, .int .i64 (intC 0).perms, .int .i64 (intC 0).ty, .bool (intC 0).tag]) ∧ Below w.heap.size w w' := by
  go_enter Tryz.func48, Tryz.ntmps48
  go_wp2_with (go_at_call 116; refine (int_any _ _).mono ?_; rintro e w1 ⟨rfl, rfl⟩)
  exact bodyPost_ret (v := .agg #[.int .u64 (intC 0).base, .int .u64 (intC 0).top, .int .u64 (intC 0).at_, .int .i64 (intC 0).perms, .int .i64 (intC 0).ty, .bool (intC 0).tag]) (by simp [results, Tryz.results48, go_sem, intC]) rfl ⟨rfl, (by repeat' (first | (with_reducible refine Below.setCell ?_ ?_ _) | (with_reducible refine bAlloc ?_ _) | (with_reducible refine bDrewN ?_ _) | (with_reducible refine Below.drew ?_) | (with_reducible exact Below.refl _ _) | (simp; done) | (simp; omega)))⟩
theorem sealed_any (cb ct ca cp cy : Int) (cg : Bool) (w : World) :
    Calls Tryz.prog 115 #[.agg #[.int .u64 cb, .int .u64 ct, .int .u64 ca, .int .i64 cp, .int .i64 cy, .bool cg]] w fun e w' => e = .returned (.bool (decide (0 ≤ cy))) ∧ w.alloc (.cells #[.int .u64 cb, .int .u64 ct, .int .u64 ca, .int .i64 cp, .int .i64 cy, .bool cg] 24) = w' := by
  go_enter Tryz.func115, Tryz.ntmps115
  go_wp2
  go_ret
  exact ⟨rfl, rfl⟩
theorem unless_no (cb ct ca cp cy : Int) (cg : Bool) (db dt da dp dy : Int) (dg : Bool) (w : World) (hs : cy < 0) :
    Calls Tryz.prog 177 #[.agg #[.int .u64 cb, .int .u64 ct, .int .u64 ca, .int .i64 cp, .int .i64 cy, .bool cg], .agg #[.int .u64 db, .int .u64 dt, .int .u64 da, .int .i64 dp, .int .i64 dy, .bool dg]] w fun e w' => e = .returned (.agg #[.int .u64 db, .int .u64 dt, .int .u64 da, .int .i64 dp, .int .i64 dy, .bool dg]) ∧ Below w.heap.size w w' := by
  go_enter Tryz.func177, Tryz.ntmps177
  go_wp2
  exact bodyPost_ret (v := .agg #[.int .u64 db, .int .u64 dt, .int .u64 da, .int .i64 dp, .int .i64 dy, .bool dg]) (by simp [results, Tryz.results177, go_sem]) rfl ⟨rfl, (by repeat' (first | (with_reducible refine Below.setCell ?_ ?_ _) | (with_reducible refine bAlloc ?_ _) | (with_reducible refine bDrewN ?_ _) | (with_reducible refine Below.drew ?_) | (with_reducible exact Below.refl _ _) | (simp; done) | (simp; omega)))⟩
theorem unless_yes (cb ct ca cp cy : Int) (cg : Bool) (db dt da dp dy : Int) (dg : Bool) (w : World) (hs : 0 ≤ cy) :
    Calls Tryz.prog 177 #[.agg #[.int .u64 cb, .int .u64 ct, .int .u64 ca, .int .i64 cp, .int .i64 cy, .bool cg], .agg #[.int .u64 db, .int .u64 dt, .int .u64 da, .int .i64 dp, .int .i64 dy, .bool dg]] w fun e w' => e = .returned (.agg #[.int .u64 db, .int .u64 dt, .int .u64 da, .int .i64 dp, .int .i64 dy, .bool false]) ∧ Below w.heap.size w w' := by
  go_enter Tryz.func177, Tryz.ntmps177
  go_wp2_with (first | (go_at_call 147; refine (clear_any _ _ _ _ _ _ _).mono ?_; rintro e w1 ⟨rfl, rfl⟩) | (go_at_call 115; refine (sealed_any _ _ _ _ _ _ _).mono ?_; rintro e w1 ⟨rfl, rfl⟩))
  exact bodyPost_ret (v := .agg #[.int .u64 db, .int .u64 dt, .int .u64 da, .int .i64 dp, .int .i64 dy, .bool false]) (by simp [results, Tryz.results177, go_sem]) rfl ⟨rfl, (by repeat' (first | (with_reducible refine Below.setCell ?_ ?_ _) | (with_reducible refine bAlloc ?_ _) | (with_reducible refine bDrewN ?_ _) | (with_reducible refine Below.drew ?_) | (with_reducible exact Below.refl _ _) | (simp; done) | (simp; omega)))⟩
set_option maxHeartbeats 1000000 in
theorem move_any (cb ct ca cp cy : Int) (cg : Bool) (to : Int) (w : World) :
    Calls Tryz.prog 135 #[.agg #[.int .u64 cb, .int .u64 ct, .int .u64 ca, .int .i64 cp, .int .i64 cy, .bool cg], .int .u64 to] w fun e w' => e = .returned (.agg #[.int .u64 (moveC (⟨cb, ct, ca, cp, cy, cg⟩ : CapV) to).base, .int .u64 (moveC (⟨cb, ct, ca, cp, cy, cg⟩ : CapV) to).top, .int .u64 (moveC (⟨cb, ct, ca, cp, cy, cg⟩ : CapV) to).at_, .int .i64 (moveC (⟨cb, ct, ca, cp, cy, cg⟩ : CapV) to).perms, .int .i64 (moveC (⟨cb, ct, ca, cp, cy, cg⟩ : CapV) to).ty, .bool (moveC (⟨cb, ct, ca, cp, cy, cg⟩ : CapV) to).tag]) ∧ Below w.heap.size w w' := by
  by_cases hs : 0 ≤ cy
  · go_enter Tryz.func135, Tryz.ntmps135
    go_wp2_with (go_at_call 177; refine (unless_yes _ _ _ _ _ _ _ _ _ _ _ _ _ hs).mono ?_; rintro e w1 ⟨rfl, hb⟩; obtain ⟨hc, hf⟩ := bcell hb; have hz := hb.size; simp only [size_alloc, World.size_setCell'] at hz; (try (have hz0 : w.heap.size < w1.heap.size := by omega)); (try (have hz1 : w.heap.size + 1 < w1.heap.size := by omega)); (try (have hz2 : w.heap.size + 1 + 1 < w1.heap.size := by omega)); (try (have hz3 : w.heap.size + 1 + 1 + 1 < w1.heap.size := by omega)); clear hz; have HB := Lib.hid (bTrans (w := w) (by repeat' (first | (with_reducible refine Below.setCell ?_ ?_ _) | (with_reducible refine bAlloc ?_ _) | (with_reducible refine bDrewN ?_ _) | (with_reducible refine Below.drew ?_) | (with_reducible exact Below.refl _ _) | (simp; done) | (simp; omega))) hb); clear hb)
    exact bodyPost_ret (v := .agg #[.int .u64 (moveC (⟨cb, ct, ca, cp, cy, cg⟩ : CapV) to).base, .int .u64 (moveC (⟨cb, ct, ca, cp, cy, cg⟩ : CapV) to).top, .int .u64 (moveC (⟨cb, ct, ca, cp, cy, cg⟩ : CapV) to).at_, .int .i64 (moveC (⟨cb, ct, ca, cp, cy, cg⟩ : CapV) to).perms, .int .i64 (moveC (⟨cb, ct, ca, cp, cy, cg⟩ : CapV) to).ty, .bool (moveC (⟨cb, ct, ca, cp, cy, cg⟩ : CapV) to).tag]) (by simp [results, Tryz.results135, go_sem, moveC, andC, CapV.live, CapV.sealed, hs, hc]) rfl ⟨rfl, (by repeat' (first | (with_reducible refine Below.setCell ?_ ?_ _) | (with_reducible refine bAlloc ?_ _) | (with_reducible refine bDrewN ?_ _) | (with_reducible refine Below.drew ?_) | (with_reducible exact HB.out) | (with_reducible exact Below.refl _ _) | (simp; done) | (simp; omega)))⟩
  · go_enter Tryz.func135, Tryz.ntmps135
    go_wp2_with (go_at_call 177; refine (unless_no _ _ _ _ _ _ _ _ _ _ _ _ _ (by omega)).mono ?_; rintro e w1 ⟨rfl, hb⟩; obtain ⟨hc, hf⟩ := bcell hb; have hz := hb.size; simp only [size_alloc, World.size_setCell'] at hz; (try (have hz0 : w.heap.size < w1.heap.size := by omega)); (try (have hz1 : w.heap.size + 1 < w1.heap.size := by omega)); (try (have hz2 : w.heap.size + 1 + 1 < w1.heap.size := by omega)); (try (have hz3 : w.heap.size + 1 + 1 + 1 < w1.heap.size := by omega)); clear hz; have HB := Lib.hid (bTrans (w := w) (by repeat' (first | (with_reducible refine Below.setCell ?_ ?_ _) | (with_reducible refine bAlloc ?_ _) | (with_reducible refine bDrewN ?_ _) | (with_reducible refine Below.drew ?_) | (with_reducible exact Below.refl _ _) | (simp; done) | (simp; omega))) hb); clear hb)
    exact bodyPost_ret (v := .agg #[.int .u64 (moveC (⟨cb, ct, ca, cp, cy, cg⟩ : CapV) to).base, .int .u64 (moveC (⟨cb, ct, ca, cp, cy, cg⟩ : CapV) to).top, .int .u64 (moveC (⟨cb, ct, ca, cp, cy, cg⟩ : CapV) to).at_, .int .i64 (moveC (⟨cb, ct, ca, cp, cy, cg⟩ : CapV) to).perms, .int .i64 (moveC (⟨cb, ct, ca, cp, cy, cg⟩ : CapV) to).ty, .bool (moveC (⟨cb, ct, ca, cp, cy, cg⟩ : CapV) to).tag]) (by simp [results, Tryz.results135, go_sem, moveC, andC, CapV.live, CapV.sealed, hs, hc]) rfl ⟨rfl, (by repeat' (first | (with_reducible refine Below.setCell ?_ ?_ _) | (with_reducible refine bAlloc ?_ _) | (with_reducible refine bDrewN ?_ _) | (with_reducible refine Below.drew ?_) | (with_reducible exact HB.out) | (with_reducible exact Below.refl _ _) | (simp; done) | (simp; omega)))⟩
set_option maxHeartbeats 1000000 in
theorem and_any (cb ct ca cp cy : Int) (cg : Bool) (p : Int) (w : World) :
    Calls Tryz.prog 141 #[.agg #[.int .u64 cb, .int .u64 ct, .int .u64 ca, .int .i64 cp, .int .i64 cy, .bool cg], .int .i64 p] w fun e w' => e = .returned (.agg #[.int .u64 (andC (⟨cb, ct, ca, cp, cy, cg⟩ : CapV) p).base, .int .u64 (andC (⟨cb, ct, ca, cp, cy, cg⟩ : CapV) p).top, .int .u64 (andC (⟨cb, ct, ca, cp, cy, cg⟩ : CapV) p).at_, .int .i64 (andC (⟨cb, ct, ca, cp, cy, cg⟩ : CapV) p).perms, .int .i64 (andC (⟨cb, ct, ca, cp, cy, cg⟩ : CapV) p).ty, .bool (andC (⟨cb, ct, ca, cp, cy, cg⟩ : CapV) p).tag]) ∧ Below w.heap.size w w' := by
  by_cases hs : 0 ≤ cy
  · go_enter Tryz.func141, Tryz.ntmps141
    go_wp2_with (go_at_call 177; refine (unless_yes _ _ _ _ _ _ _ _ _ _ _ _ _ hs).mono ?_; rintro e w1 ⟨rfl, hb⟩; obtain ⟨hc, hf⟩ := bcell hb; have hz := hb.size; simp only [size_alloc, World.size_setCell'] at hz; (try (have hz0 : w.heap.size < w1.heap.size := by omega)); (try (have hz1 : w.heap.size + 1 < w1.heap.size := by omega)); (try (have hz2 : w.heap.size + 1 + 1 < w1.heap.size := by omega)); (try (have hz3 : w.heap.size + 1 + 1 + 1 < w1.heap.size := by omega)); clear hz; have HB := Lib.hid (bTrans (w := w) (by repeat' (first | (with_reducible refine Below.setCell ?_ ?_ _) | (with_reducible refine bAlloc ?_ _) | (with_reducible refine bDrewN ?_ _) | (with_reducible refine Below.drew ?_) | (with_reducible exact Below.refl _ _) | (simp; done) | (simp; omega))) hb); clear hb)
    exact bodyPost_ret (v := .agg #[.int .u64 (andC (⟨cb, ct, ca, cp, cy, cg⟩ : CapV) p).base, .int .u64 (andC (⟨cb, ct, ca, cp, cy, cg⟩ : CapV) p).top, .int .u64 (andC (⟨cb, ct, ca, cp, cy, cg⟩ : CapV) p).at_, .int .i64 (andC (⟨cb, ct, ca, cp, cy, cg⟩ : CapV) p).perms, .int .i64 (andC (⟨cb, ct, ca, cp, cy, cg⟩ : CapV) p).ty, .bool (andC (⟨cb, ct, ca, cp, cy, cg⟩ : CapV) p).tag]) (by simp [results, Tryz.results141, go_sem, moveC, andC, CapV.live, CapV.sealed, hs, hc]) rfl ⟨rfl, (by repeat' (first | (with_reducible refine Below.setCell ?_ ?_ _) | (with_reducible refine bAlloc ?_ _) | (with_reducible refine bDrewN ?_ _) | (with_reducible refine Below.drew ?_) | (with_reducible exact HB.out) | (with_reducible exact Below.refl _ _) | (simp; done) | (simp; omega)))⟩
  · go_enter Tryz.func141, Tryz.ntmps141
    go_wp2_with (go_at_call 177; refine (unless_no _ _ _ _ _ _ _ _ _ _ _ _ _ (by omega)).mono ?_; rintro e w1 ⟨rfl, hb⟩; obtain ⟨hc, hf⟩ := bcell hb; have hz := hb.size; simp only [size_alloc, World.size_setCell'] at hz; (try (have hz0 : w.heap.size < w1.heap.size := by omega)); (try (have hz1 : w.heap.size + 1 < w1.heap.size := by omega)); (try (have hz2 : w.heap.size + 1 + 1 < w1.heap.size := by omega)); (try (have hz3 : w.heap.size + 1 + 1 + 1 < w1.heap.size := by omega)); clear hz; have HB := Lib.hid (bTrans (w := w) (by repeat' (first | (with_reducible refine Below.setCell ?_ ?_ _) | (with_reducible refine bAlloc ?_ _) | (with_reducible refine bDrewN ?_ _) | (with_reducible refine Below.drew ?_) | (with_reducible exact Below.refl _ _) | (simp; done) | (simp; omega))) hb); clear hb)
    exact bodyPost_ret (v := .agg #[.int .u64 (andC (⟨cb, ct, ca, cp, cy, cg⟩ : CapV) p).base, .int .u64 (andC (⟨cb, ct, ca, cp, cy, cg⟩ : CapV) p).top, .int .u64 (andC (⟨cb, ct, ca, cp, cy, cg⟩ : CapV) p).at_, .int .i64 (andC (⟨cb, ct, ca, cp, cy, cg⟩ : CapV) p).perms, .int .i64 (andC (⟨cb, ct, ca, cp, cy, cg⟩ : CapV) p).ty, .bool (andC (⟨cb, ct, ca, cp, cy, cg⟩ : CapV) p).tag]) (by simp [results, Tryz.results141, go_sem, moveC, andC, CapV.live, CapV.sealed, hs, hc]) rfl ⟨rfl, (by repeat' (first | (with_reducible refine Below.setCell ?_ ?_ _) | (with_reducible refine bAlloc ?_ _) | (with_reducible refine bDrewN ?_ _) | (with_reducible refine Below.drew ?_) | (with_reducible exact HB.out) | (with_reducible exact Below.refl _ _) | (simp; done) | (simp; omega)))⟩
theorem caphas_any (cb ct ca cp cy : Int) (cg : Bool) (n : Int) (w : World) (h1 : 0 ≤ ca) (h2 : ca < 18446744073709551616) (h3 : 0 ≤ n) :
    Calls Tryz.prog 131 #[.agg #[.int .u64 cb, .int .u64 ct, .int .u64 ca, .int .i64 cp, .int .i64 cy, .bool cg], .int .u64 n] w fun e w' => e = .returned (.bool (hasC (⟨cb, ct, ca, cp, cy, cg⟩ : CapV) n)) ∧ w.alloc (.cells #[.int .u64 cb, .int .u64 ct, .int .u64 ca, .int .i64 cp, .int .i64 cy, .bool cg] 24) = w' := by
  by_cases a1 : cb ≤ ca
  · have ta1 : decide (cb ≤ ca) = true := decide_eq_true a1
    have Ha1 := Lib.hid ta1
    by_cases a2 : n ≤ 18446744073709551615 - ca
    · have ta2 : decide (n ≤ 18446744073709551615 - ca) = true := decide_eq_true a2
      have Ha2 := Lib.hid ta2
      go_enter Tryz.func131, Tryz.ntmps131
      go_wp2
      go_ret
      exact ⟨ret_bool (by simp only [hasC, Ha1.out, Ha2.out, Bool.false_and, Bool.and_false, Bool.true_and, Bool.and_true, Bool.not_true, Bool.not_false, Bool.false_or, Bool.or_false, Bool.true_or, Bool.or_true, if_true, if_false, Bool.false_eq_true]), rfl⟩
    · have ta2 : decide (n ≤ 18446744073709551615 - ca) = false := decide_eq_false a2
      have Ha2 := Lib.hid ta2
      go_enter Tryz.func131, Tryz.ntmps131
      go_wp2
      go_ret
      exact ⟨ret_bool (by simp only [hasC, Ha1.out, Ha2.out, Bool.false_and, Bool.and_false, Bool.true_and, Bool.and_true, Bool.not_true, Bool.not_false, Bool.false_or, Bool.or_false, Bool.true_or, Bool.or_true, if_true, if_false, Bool.false_eq_true]), rfl⟩
  · have ta1 : decide (cb ≤ ca) = false := decide_eq_false a1
    have Ha1 := Lib.hid ta1
    go_enter Tryz.func131, Tryz.ntmps131
    go_wp2
    go_ret
    exact ⟨ret_bool (by simp only [hasC, Ha1.out, Bool.false_and, Bool.and_false, Bool.true_and, Bool.and_true, Bool.not_true, Bool.not_false, Bool.false_or, Bool.or_false, Bool.true_or, Bool.or_true, if_true, if_false, Bool.false_eq_true]), rfl⟩
theorem bound_any (cb ct ca cp cy : Int) (cg : Bool) (n : Int) (w : World) (h1 : 0 ≤ ca) (h2 : ca < 18446744073709551616) (h3 : 0 ≤ n) (h4 : ct < 18446744073709551616) :
    Calls Tryz.prog 140 #[.agg #[.int .u64 cb, .int .u64 ct, .int .u64 ca, .int .i64 cp, .int .i64 cy, .bool cg], .int .u64 n] w fun e w' => e = .returned (.agg #[.int .u64 (boundC (⟨cb, ct, ca, cp, cy, cg⟩ : CapV) n).base, .int .u64 (boundC (⟨cb, ct, ca, cp, cy, cg⟩ : CapV) n).top, .int .u64 (boundC (⟨cb, ct, ca, cp, cy, cg⟩ : CapV) n).at_, .int .i64 (boundC (⟨cb, ct, ca, cp, cy, cg⟩ : CapV) n).perms, .int .i64 (boundC (⟨cb, ct, ca, cp, cy, cg⟩ : CapV) n).ty, .bool (boundC (⟨cb, ct, ca, cp, cy, cg⟩ : CapV) n).tag]) ∧ Below w.heap.size w w' := by
  by_cases hs : 0 ≤ cy
  · have hb0 : boundC (⟨cb, ct, ca, cp, cy, cg⟩ : CapV) n = CapV.clear (⟨cb, ct, ca, cp, cy, cg⟩ : CapV) := by simp [boundC, CapV.live, CapV.sealed, hs]
    rw [hb0]
    cases cg
    all_goals
      go_enter Tryz.func140, Tryz.ntmps140
      go_wp2_with (first | (go_at_call 131; refine (caphas_any _ _ _ _ _ _ _ _ h1 h2 h3).mono ?_; rintro e w1 ⟨rfl, rfl⟩) | (go_at_call 115; refine (sealed_any _ _ _ _ _ _ _).mono ?_; rintro e w1 ⟨rfl, rfl⟩) | (go_at_call 147; refine (clear_any _ _ _ _ _ _ _).mono ?_; rintro e w1 ⟨rfl, rfl⟩))
      exact bodyPost_ret (v := .agg #[.int .u64 cb, .int .u64 ct, .int .u64 ca, .int .i64 cp, .int .i64 cy, .bool false]) (by simp [results, Tryz.results140, go_sem, CapV.clear]) rfl ⟨rfl, (by repeat' (first | (with_reducible refine Below.setCell ?_ ?_ _) | (with_reducible refine bAlloc ?_ _) | (with_reducible refine bDrewN ?_ _) | (with_reducible refine Below.drew ?_) | (with_reducible exact Below.refl _ _) | (simp; done) | (simp; omega)))⟩
  · cases cg
    · have hb0 : boundC (⟨cb, ct, ca, cp, cy, false⟩ : CapV) n = CapV.clear (⟨cb, ct, ca, cp, cy, false⟩ : CapV) := by simp [boundC, CapV.live]
      rw [hb0]
      go_enter Tryz.func140, Tryz.ntmps140
      go_wp2_with (first | (go_at_call 131; refine (caphas_any _ _ _ _ _ _ _ _ h1 h2 h3).mono ?_; rintro e w1 ⟨rfl, rfl⟩) | (go_at_call 115; refine (sealed_any _ _ _ _ _ _ _).mono ?_; rintro e w1 ⟨rfl, rfl⟩) | (go_at_call 147; refine (clear_any _ _ _ _ _ _ _).mono ?_; rintro e w1 ⟨rfl, rfl⟩))
      exact bodyPost_ret (v := .agg #[.int .u64 cb, .int .u64 ct, .int .u64 ca, .int .i64 cp, .int .i64 cy, .bool false]) (by simp [results, Tryz.results140, go_sem, CapV.clear]) rfl ⟨rfl, (by repeat' (first | (with_reducible refine Below.setCell ?_ ?_ _) | (with_reducible refine bAlloc ?_ _) | (with_reducible refine bDrewN ?_ _) | (with_reducible refine Below.drew ?_) | (with_reducible exact Below.refl _ _) | (simp; done) | (simp; omega)))⟩
    · cases hh : hasC (⟨cb, ct, ca, cp, cy, true⟩ : CapV) n
      · have hb0 : boundC (⟨cb, ct, ca, cp, cy, true⟩ : CapV) n = CapV.clear (⟨cb, ct, ca, cp, cy, true⟩ : CapV) := by simp [boundC, CapV.live, hh]
        rw [hb0]
        go_enter Tryz.func140, Tryz.ntmps140
        go_wp2_with (first | (go_at_call 131; refine (caphas_any _ _ _ _ _ _ _ _ h1 h2 h3).mono ?_; rintro e w1 ⟨rfl, rfl⟩) | (go_at_call 115; refine (sealed_any _ _ _ _ _ _ _).mono ?_; rintro e w1 ⟨rfl, rfl⟩) | (go_at_call 147; refine (clear_any _ _ _ _ _ _ _).mono ?_; rintro e w1 ⟨rfl, rfl⟩))
        exact bodyPost_ret (v := .agg #[.int .u64 cb, .int .u64 ct, .int .u64 ca, .int .i64 cp, .int .i64 cy, .bool false]) (by simp [results, Tryz.results140, go_sem, CapV.clear]) rfl ⟨rfl, (by repeat' (first | (with_reducible refine Below.setCell ?_ ?_ _) | (with_reducible refine bAlloc ?_ _) | (with_reducible refine bDrewN ?_ _) | (with_reducible refine Below.drew ?_) | (with_reducible exact Below.refl _ _) | (simp; done) | (simp; omega)))⟩
      · have hb0 : boundC (⟨cb, ct, ca, cp, cy, true⟩ : CapV) n = ⟨ca, ca + n, ca, cp, cy, true⟩ := by simp [boundC, CapV.live, CapV.sealed, hs, hh]
        have hle : ca + n ≤ ct := by simp [hasC] at hh; omega
        rw [hb0]
        go_enter Tryz.func140, Tryz.ntmps140
        go_wp2_with (first | (go_at_call 131; refine (caphas_any _ _ _ _ _ _ _ _ h1 h2 h3).mono ?_; rintro e w1 ⟨rfl, rfl⟩) | (go_at_call 115; refine (sealed_any _ _ _ _ _ _ _).mono ?_; rintro e w1 ⟨rfl, rfl⟩) | (go_at_call 147; refine (clear_any _ _ _ _ _ _ _).mono ?_; rintro e w1 ⟨rfl, rfl⟩))
        exact bodyPost_ret (v := .agg #[.int .u64 ca, .int .u64 (ca + n), .int .u64 ca, .int .i64 cp, .int .i64 cy, .bool true]) (by simp [results, Tryz.results140, go_sem, CapV.clear]) rfl ⟨rfl, (by repeat' (first | (with_reducible refine Below.setCell ?_ ?_ _) | (with_reducible refine bAlloc ?_ _) | (with_reducible refine bDrewN ?_ _) | (with_reducible refine Below.drew ?_) | (with_reducible exact Below.refl _ _) | (simp; done) | (simp; omega)))⟩
theorem key_f (kb kt ka kp ky : Int) (perm : Int) (w : World) :
    Calls Tryz.prog 181 #[.agg #[.int .u64 kb, .int .u64 kt, .int .u64 ka, .int .i64 kp, .int .i64 ky, .bool false], .int .i64 perm] w fun e w' => e = .returned (.bool (keyC (⟨kb, kt, ka, kp, ky, false⟩ : CapV) perm)) ∧ w.alloc (.cells #[.int .u64 kb, .int .u64 kt, .int .u64 ka, .int .i64 kp, .int .i64 ky, .bool false] 24) = w' := by
  go_enter Tryz.func181, Tryz.ntmps181
  go_wp2
  go_ret
  exact ⟨rfl, rfl⟩
theorem key_t (kb kt ka kp ky : Int) (perm : Int) (w : World) :
    Calls Tryz.prog 181 #[.agg #[.int .u64 kb, .int .u64 kt, .int .u64 ka, .int .i64 kp, .int .i64 ky, .bool true], .int .i64 perm] w fun e w' => e = .returned (.bool (keyC (⟨kb, kt, ka, kp, ky, true⟩ : CapV) perm)) ∧ (w.alloc (.cells #[.int .u64 kb, .int .u64 kt, .int .u64 ka, .int .i64 kp, .int .i64 ky, .bool true] 24)).alloc (.cells #[.int .u64 kb, .int .u64 kt, .int .u64 ka, .int .i64 kp, .int .i64 ky, .bool true] 24) = w' := by
  by_cases a2 : 0 ≤ ky
  · have ta2 : decide (0 ≤ ky) = true := decide_eq_true a2
    have Ha2 := Lib.hid ta2
    go_enter Tryz.func181, Tryz.ntmps181
    go_wp2_with (go_at_call 115; refine (sealed_any _ _ _ _ _ _ _).mono ?_; rintro e w1 ⟨rfl, rfl⟩)
    go_ret
    exact ⟨ret_bool (by simp only [keyC, CapV.sealed, Ha2.out, Bool.false_and, Bool.and_false, Bool.true_and, Bool.and_true, Bool.not_true, Bool.not_false, Bool.false_or, Bool.or_false, Bool.true_or, Bool.or_true, if_true, if_false, Bool.false_eq_true]), rfl⟩
  · have ta2 : decide (0 ≤ ky) = false := decide_eq_false a2
    have Ha2 := Lib.hid ta2
    cases ta3 : (bits .and .i64 kp perm == perm)
    · have Ha3 := Lib.hid ta3
      go_enter Tryz.func181, Tryz.ntmps181
      go_wp2_with (go_at_call 115; refine (sealed_any _ _ _ _ _ _ _).mono ?_; rintro e w1 ⟨rfl, rfl⟩)
      go_ret
      exact ⟨ret_bool (by simp only [keyC, CapV.sealed, Ha2.out, Ha3.out, Bool.false_and, Bool.and_false, Bool.true_and, Bool.and_true, Bool.not_true, Bool.not_false, Bool.false_or, Bool.or_false, Bool.true_or, Bool.or_true, if_true, if_false, Bool.false_eq_true]), rfl⟩
    · have Ha3 := Lib.hid ta3
      by_cases a4 : kb ≤ ka
      · have ta4 : decide (kb ≤ ka) = true := decide_eq_true a4
        have Ha4 := Lib.hid ta4
        by_cases a5 : ka < kt
        · have ta5 : decide (ka < kt) = true := decide_eq_true a5
          have Ha5 := Lib.hid ta5
          go_enter Tryz.func181, Tryz.ntmps181
          go_wp2_with (go_at_call 115; refine (sealed_any _ _ _ _ _ _ _).mono ?_; rintro e w1 ⟨rfl, rfl⟩)
          go_ret
          exact ⟨ret_bool (by simp only [keyC, CapV.sealed, Ha2.out, Ha3.out, Ha4.out, Ha5.out, Bool.false_and, Bool.and_false, Bool.true_and, Bool.and_true, Bool.not_true, Bool.not_false, Bool.false_or, Bool.or_false, Bool.true_or, Bool.or_true, if_true, if_false, Bool.false_eq_true]), rfl⟩
        · have ta5 : decide (ka < kt) = false := decide_eq_false a5
          have Ha5 := Lib.hid ta5
          go_enter Tryz.func181, Tryz.ntmps181
          go_wp2_with (go_at_call 115; refine (sealed_any _ _ _ _ _ _ _).mono ?_; rintro e w1 ⟨rfl, rfl⟩)
          go_ret
          exact ⟨ret_bool (by simp only [keyC, CapV.sealed, Ha2.out, Ha3.out, Ha4.out, Ha5.out, Bool.false_and, Bool.and_false, Bool.true_and, Bool.and_true, Bool.not_true, Bool.not_false, Bool.false_or, Bool.or_false, Bool.true_or, Bool.or_true, if_true, if_false, Bool.false_eq_true]), rfl⟩
      · have ta4 : decide (kb ≤ ka) = false := decide_eq_false a4
        have Ha4 := Lib.hid ta4
        go_enter Tryz.func181, Tryz.ntmps181
        go_wp2_with (go_at_call 115; refine (sealed_any _ _ _ _ _ _ _).mono ?_; rintro e w1 ⟨rfl, rfl⟩)
        go_ret
        exact ⟨ret_bool (by simp only [keyC, CapV.sealed, Ha2.out, Ha3.out, Ha4.out, Bool.false_and, Bool.and_false, Bool.true_and, Bool.and_true, Bool.not_true, Bool.not_false, Bool.false_or, Bool.or_false, Bool.true_or, Bool.or_true, if_true, if_false, Bool.false_eq_true]), rfl⟩
set_option maxHeartbeats 1000000 in
theorem seal_any (cb ct ca cp cy : Int) (cg : Bool) (kb kt ka kp ky : Int) (kg : Bool) (w : World) (h1 : 0 ≤ ka) :
    Calls Tryz.prog 143 #[.agg #[.int .u64 cb, .int .u64 ct, .int .u64 ca, .int .i64 cp, .int .i64 cy, .bool cg], .agg #[.int .u64 kb, .int .u64 kt, .int .u64 ka, .int .i64 kp, .int .i64 ky, .bool kg]] w fun e w' => e = .returned (.agg #[.int .u64 (sealC (⟨cb, ct, ca, cp, cy, cg⟩ : CapV) (⟨kb, kt, ka, kp, ky, kg⟩ : CapV)).base, .int .u64 (sealC (⟨cb, ct, ca, cp, cy, cg⟩ : CapV) (⟨kb, kt, ka, kp, ky, kg⟩ : CapV)).top, .int .u64 (sealC (⟨cb, ct, ca, cp, cy, cg⟩ : CapV) (⟨kb, kt, ka, kp, ky, kg⟩ : CapV)).at_, .int .i64 (sealC (⟨cb, ct, ca, cp, cy, cg⟩ : CapV) (⟨kb, kt, ka, kp, ky, kg⟩ : CapV)).perms, .int .i64 (sealC (⟨cb, ct, ca, cp, cy, cg⟩ : CapV) (⟨kb, kt, ka, kp, ky, kg⟩ : CapV)).ty, .bool (sealC (⟨cb, ct, ca, cp, cy, cg⟩ : CapV) (⟨kb, kt, ka, kp, ky, kg⟩ : CapV)).tag]) ∧ Below w.heap.size w w' := by
  cases cg
  · skip
    have hb0 : sealC (⟨cb, ct, ca, cp, cy, false⟩ : CapV) (⟨kb, kt, ka, kp, ky, kg⟩ : CapV) = CapV.clear (⟨cb, ct, ca, cp, cy, false⟩ : CapV) := by simp only [sealC, CapV.live, CapV.sealed, Bool.false_and, Bool.and_false, Bool.true_and, Bool.and_true, Bool.not_true, Bool.not_false, Bool.false_or, Bool.or_false, Bool.true_or, Bool.or_true, if_true, if_false, Bool.false_eq_true]
    rw [hb0]
    clear hb0
    go_enter Tryz.func143, Tryz.ntmps143
    go_wp2_with (first | (go_at_call 181; refine (key_t _ _ _ _ _ _ _).mono ?_; rintro e w1 ⟨rfl, rfl⟩) | (go_at_call 115; refine (sealed_any _ _ _ _ _ _ _).mono ?_; rintro e w1 ⟨rfl, rfl⟩) | (go_at_call 147; refine (clear_any _ _ _ _ _ _ _).mono ?_; rintro e w1 ⟨rfl, rfl⟩))
    exact bodyPost_ret (v := .agg #[.int .u64 cb, .int .u64 ct, .int .u64 ca, .int .i64 cp, .int .i64 cy, .bool false]) (by simp [results, Tryz.results143, go_sem, CapV.clear]) rfl ⟨rfl, (by repeat' (first | (with_reducible refine Below.setCell ?_ ?_ _) | (with_reducible refine bAlloc ?_ _) | (with_reducible refine bDrewN ?_ _) | (with_reducible refine Below.drew ?_) | (with_reducible exact Below.refl _ _) | (simp; done) | (simp; omega)))⟩
  · skip
    by_cases a2 : 0 ≤ cy
    · have ta2 : decide (0 ≤ cy) = true := decide_eq_true a2
      have Ha2 := Lib.hid ta2
      have hb0 : sealC (⟨cb, ct, ca, cp, cy, true⟩ : CapV) (⟨kb, kt, ka, kp, ky, kg⟩ : CapV) = CapV.clear (⟨cb, ct, ca, cp, cy, true⟩ : CapV) := by simp only [sealC, CapV.live, CapV.sealed, Ha2.out, Bool.false_and, Bool.and_false, Bool.true_and, Bool.and_true, Bool.not_true, Bool.not_false, Bool.false_or, Bool.or_false, Bool.true_or, Bool.or_true, if_true, if_false, Bool.false_eq_true]
      rw [hb0]
      clear hb0
      go_enter Tryz.func143, Tryz.ntmps143
      go_wp2_with (first | (go_at_call 181; refine (key_t _ _ _ _ _ _ _).mono ?_; rintro e w1 ⟨rfl, rfl⟩) | (go_at_call 115; refine (sealed_any _ _ _ _ _ _ _).mono ?_; rintro e w1 ⟨rfl, rfl⟩) | (go_at_call 147; refine (clear_any _ _ _ _ _ _ _).mono ?_; rintro e w1 ⟨rfl, rfl⟩))
      exact bodyPost_ret (v := .agg #[.int .u64 cb, .int .u64 ct, .int .u64 ca, .int .i64 cp, .int .i64 cy, .bool false]) (by simp [results, Tryz.results143, go_sem, CapV.clear]) rfl ⟨rfl, (by repeat' (first | (with_reducible refine Below.setCell ?_ ?_ _) | (with_reducible refine bAlloc ?_ _) | (with_reducible refine bDrewN ?_ _) | (with_reducible refine Below.drew ?_) | (with_reducible exact Below.refl _ _) | (simp; done) | (simp; omega)))⟩
    · have ta2 : decide (0 ≤ cy) = false := decide_eq_false a2
      have Ha2 := Lib.hid ta2
      cases kg
      · skip
        have hb0 : sealC (⟨cb, ct, ca, cp, cy, true⟩ : CapV) (⟨kb, kt, ka, kp, ky, false⟩ : CapV) = CapV.clear (⟨cb, ct, ca, cp, cy, true⟩ : CapV) := by simp only [sealC, CapV.live, CapV.sealed, Ha2.out, (show keyC (⟨kb, kt, ka, kp, ky, false⟩ : CapV) 32 = false from rfl), Bool.false_and, Bool.and_false, Bool.true_and, Bool.and_true, Bool.not_true, Bool.not_false, Bool.false_or, Bool.or_false, Bool.true_or, Bool.or_true, if_true, if_false, Bool.false_eq_true]
        rw [hb0]
        clear hb0
        go_enter Tryz.func143, Tryz.ntmps143
        go_wp2_with (first | (go_at_call 181; refine (key_f _ _ _ _ _ _ _).mono ?_; rintro e w1 ⟨rfl, rfl⟩) | (go_at_call 115; refine (sealed_any _ _ _ _ _ _ _).mono ?_; rintro e w1 ⟨rfl, rfl⟩) | (go_at_call 147; refine (clear_any _ _ _ _ _ _ _).mono ?_; rintro e w1 ⟨rfl, rfl⟩))
        exact bodyPost_ret (v := .agg #[.int .u64 cb, .int .u64 ct, .int .u64 ca, .int .i64 cp, .int .i64 cy, .bool false]) (by simp [results, Tryz.results143, go_sem, CapV.clear]) rfl ⟨rfl, (by repeat' (first | (with_reducible refine Below.setCell ?_ ?_ _) | (with_reducible refine bAlloc ?_ _) | (with_reducible refine bDrewN ?_ _) | (with_reducible refine Below.drew ?_) | (with_reducible exact Below.refl _ _) | (simp; done) | (simp; omega)))⟩
      · skip
        cases ta3 : keyC (⟨kb, kt, ka, kp, ky, true⟩ : CapV) 32
        · have Ha3 := Lib.hid ta3
          have hb0 : sealC (⟨cb, ct, ca, cp, cy, true⟩ : CapV) (⟨kb, kt, ka, kp, ky, true⟩ : CapV) = CapV.clear (⟨cb, ct, ca, cp, cy, true⟩ : CapV) := by simp only [sealC, CapV.live, CapV.sealed, Ha2.out, Ha3.out, Bool.false_and, Bool.and_false, Bool.true_and, Bool.and_true, Bool.not_true, Bool.not_false, Bool.false_or, Bool.or_false, Bool.true_or, Bool.or_true, if_true, if_false, Bool.false_eq_true]
          rw [hb0]
          clear hb0
          go_enter Tryz.func143, Tryz.ntmps143
          go_wp2_with (first | (go_at_call 181; refine (key_t _ _ _ _ _ _ _).mono ?_; rintro e w1 ⟨rfl, rfl⟩) | (go_at_call 115; refine (sealed_any _ _ _ _ _ _ _).mono ?_; rintro e w1 ⟨rfl, rfl⟩) | (go_at_call 147; refine (clear_any _ _ _ _ _ _ _).mono ?_; rintro e w1 ⟨rfl, rfl⟩))
          exact bodyPost_ret (v := .agg #[.int .u64 cb, .int .u64 ct, .int .u64 ca, .int .i64 cp, .int .i64 cy, .bool false]) (by simp [results, Tryz.results143, go_sem, CapV.clear]) rfl ⟨rfl, (by repeat' (first | (with_reducible refine Below.setCell ?_ ?_ _) | (with_reducible refine bAlloc ?_ _) | (with_reducible refine bDrewN ?_ _) | (with_reducible refine Below.drew ?_) | (with_reducible exact Below.refl _ _) | (simp; done) | (simp; omega)))⟩
        · have Ha3 := Lib.hid ta3
          by_cases a4 : ka < 64
          · have ta4 : decide (ka < 64) = true := decide_eq_true a4
            have Ha4 := Lib.hid ta4
            have hb0 : sealC (⟨cb, ct, ca, cp, cy, true⟩ : CapV) (⟨kb, kt, ka, kp, ky, true⟩ : CapV) = (⟨cb, ct, ca, cp, ka, true⟩ : CapV) := by simp only [sealC, CapV.live, CapV.sealed, Ha2.out, Ha3.out, Ha4.out, Bool.false_and, Bool.and_false, Bool.true_and, Bool.and_true, Bool.not_true, Bool.not_false, Bool.false_or, Bool.or_false, Bool.true_or, Bool.or_true, if_true, if_false, Bool.false_eq_true]
            rw [hb0]
            clear hb0
            go_enter Tryz.func143, Tryz.ntmps143
            go_wp2_with (first | (go_at_call 181; refine (key_t _ _ _ _ _ _ _).mono ?_; rintro e w1 ⟨rfl, rfl⟩) | (go_at_call 115; refine (sealed_any _ _ _ _ _ _ _).mono ?_; rintro e w1 ⟨rfl, rfl⟩) | (go_at_call 147; refine (clear_any _ _ _ _ _ _ _).mono ?_; rintro e w1 ⟨rfl, rfl⟩))
            exact bodyPost_ret (v := .agg #[.int .u64 cb, .int .u64 ct, .int .u64 ca, .int .i64 cp, .int .i64 ka, .bool true]) (by simp [results, Tryz.results143, go_sem, CapV.clear]) rfl ⟨rfl, (by repeat' (first | (with_reducible refine Below.setCell ?_ ?_ _) | (with_reducible refine bAlloc ?_ _) | (with_reducible refine bDrewN ?_ _) | (with_reducible refine Below.drew ?_) | (with_reducible exact Below.refl _ _) | (simp; done) | (simp; omega)))⟩
          · have ta4 : decide (ka < 64) = false := decide_eq_false a4
            have Ha4 := Lib.hid ta4
            have hb0 : sealC (⟨cb, ct, ca, cp, cy, true⟩ : CapV) (⟨kb, kt, ka, kp, ky, true⟩ : CapV) = CapV.clear (⟨cb, ct, ca, cp, cy, true⟩ : CapV) := by simp only [sealC, CapV.live, CapV.sealed, Ha2.out, Ha3.out, Ha4.out, Bool.false_and, Bool.and_false, Bool.true_and, Bool.and_true, Bool.not_true, Bool.not_false, Bool.false_or, Bool.or_false, Bool.true_or, Bool.or_true, if_true, if_false, Bool.false_eq_true]
            rw [hb0]
            clear hb0
            go_enter Tryz.func143, Tryz.ntmps143
            go_wp2_with (first | (go_at_call 181; refine (key_t _ _ _ _ _ _ _).mono ?_; rintro e w1 ⟨rfl, rfl⟩) | (go_at_call 115; refine (sealed_any _ _ _ _ _ _ _).mono ?_; rintro e w1 ⟨rfl, rfl⟩) | (go_at_call 147; refine (clear_any _ _ _ _ _ _ _).mono ?_; rintro e w1 ⟨rfl, rfl⟩))
            exact bodyPost_ret (v := .agg #[.int .u64 cb, .int .u64 ct, .int .u64 ca, .int .i64 cp, .int .i64 cy, .bool false]) (by simp [results, Tryz.results143, go_sem, CapV.clear]) rfl ⟨rfl, (by repeat' (first | (with_reducible refine Below.setCell ?_ ?_ _) | (with_reducible refine bAlloc ?_ _) | (with_reducible refine bDrewN ?_ _) | (with_reducible refine Below.drew ?_) | (with_reducible exact Below.refl _ _) | (simp; done) | (simp; omega)))⟩
set_option maxHeartbeats 1000000 in
theorem unseal_any (cb ct ca cp cy : Int) (cg : Bool) (kb kt ka kp ky : Int) (kg : Bool) (w : World) (h1 : 0 ≤ ka) :
    Calls Tryz.prog 144 #[.agg #[.int .u64 cb, .int .u64 ct, .int .u64 ca, .int .i64 cp, .int .i64 cy, .bool cg], .agg #[.int .u64 kb, .int .u64 kt, .int .u64 ka, .int .i64 kp, .int .i64 ky, .bool kg]] w fun e w' => e = .returned (.agg #[.int .u64 (unsealC (⟨cb, ct, ca, cp, cy, cg⟩ : CapV) (⟨kb, kt, ka, kp, ky, kg⟩ : CapV)).base, .int .u64 (unsealC (⟨cb, ct, ca, cp, cy, cg⟩ : CapV) (⟨kb, kt, ka, kp, ky, kg⟩ : CapV)).top, .int .u64 (unsealC (⟨cb, ct, ca, cp, cy, cg⟩ : CapV) (⟨kb, kt, ka, kp, ky, kg⟩ : CapV)).at_, .int .i64 (unsealC (⟨cb, ct, ca, cp, cy, cg⟩ : CapV) (⟨kb, kt, ka, kp, ky, kg⟩ : CapV)).perms, .int .i64 (unsealC (⟨cb, ct, ca, cp, cy, cg⟩ : CapV) (⟨kb, kt, ka, kp, ky, kg⟩ : CapV)).ty, .bool (unsealC (⟨cb, ct, ca, cp, cy, cg⟩ : CapV) (⟨kb, kt, ka, kp, ky, kg⟩ : CapV)).tag]) ∧ Below w.heap.size w w' := by
  cases cg
  · skip
    have hb0 : unsealC (⟨cb, ct, ca, cp, cy, false⟩ : CapV) (⟨kb, kt, ka, kp, ky, kg⟩ : CapV) = CapV.clear (⟨cb, ct, ca, cp, cy, false⟩ : CapV) := by simp only [unsealC, CapV.live, CapV.sealed, Bool.false_and, Bool.and_false, Bool.true_and, Bool.and_true, Bool.not_true, Bool.not_false, Bool.false_or, Bool.or_false, Bool.true_or, Bool.or_true, if_true, if_false, Bool.false_eq_true]
    rw [hb0]
    clear hb0
    go_enter Tryz.func144, Tryz.ntmps144
    go_wp2_with (first | (go_at_call 181; refine (key_t _ _ _ _ _ _ _).mono ?_; rintro e w1 ⟨rfl, rfl⟩) | (go_at_call 115; refine (sealed_any _ _ _ _ _ _ _).mono ?_; rintro e w1 ⟨rfl, rfl⟩) | (go_at_call 147; refine (clear_any _ _ _ _ _ _ _).mono ?_; rintro e w1 ⟨rfl, rfl⟩))
    exact bodyPost_ret (v := .agg #[.int .u64 cb, .int .u64 ct, .int .u64 ca, .int .i64 cp, .int .i64 cy, .bool false]) (by simp [results, Tryz.results144, go_sem, CapV.clear]) rfl ⟨rfl, (by repeat' (first | (with_reducible refine Below.setCell ?_ ?_ _) | (with_reducible refine bAlloc ?_ _) | (with_reducible refine bDrewN ?_ _) | (with_reducible refine Below.drew ?_) | (with_reducible exact Below.refl _ _) | (simp; done) | (simp; omega)))⟩
  · skip
    by_cases a2 : 0 ≤ cy
    · have ta2 : decide (0 ≤ cy) = true := decide_eq_true a2
      have Ha2 := Lib.hid ta2
      cases kg
      · skip
        have hb0 : unsealC (⟨cb, ct, ca, cp, cy, true⟩ : CapV) (⟨kb, kt, ka, kp, ky, false⟩ : CapV) = CapV.clear (⟨cb, ct, ca, cp, cy, true⟩ : CapV) := by simp only [unsealC, CapV.live, CapV.sealed, Ha2.out, (show keyC (⟨kb, kt, ka, kp, ky, false⟩ : CapV) 64 = false from rfl), Bool.false_and, Bool.and_false, Bool.true_and, Bool.and_true, Bool.not_true, Bool.not_false, Bool.false_or, Bool.or_false, Bool.true_or, Bool.or_true, if_true, if_false, Bool.false_eq_true]
        rw [hb0]
        clear hb0
        go_enter Tryz.func144, Tryz.ntmps144
        go_wp2_with (first | (go_at_call 181; refine (key_f _ _ _ _ _ _ _).mono ?_; rintro e w1 ⟨rfl, rfl⟩) | (go_at_call 115; refine (sealed_any _ _ _ _ _ _ _).mono ?_; rintro e w1 ⟨rfl, rfl⟩) | (go_at_call 147; refine (clear_any _ _ _ _ _ _ _).mono ?_; rintro e w1 ⟨rfl, rfl⟩))
        exact bodyPost_ret (v := .agg #[.int .u64 cb, .int .u64 ct, .int .u64 ca, .int .i64 cp, .int .i64 cy, .bool false]) (by simp [results, Tryz.results144, go_sem, CapV.clear]) rfl ⟨rfl, (by repeat' (first | (with_reducible refine Below.setCell ?_ ?_ _) | (with_reducible refine bAlloc ?_ _) | (with_reducible refine bDrewN ?_ _) | (with_reducible refine Below.drew ?_) | (with_reducible exact Below.refl _ _) | (simp; done) | (simp; omega)))⟩
      · skip
        cases ta3 : keyC (⟨kb, kt, ka, kp, ky, true⟩ : CapV) 64
        · have Ha3 := Lib.hid ta3
          have hb0 : unsealC (⟨cb, ct, ca, cp, cy, true⟩ : CapV) (⟨kb, kt, ka, kp, ky, true⟩ : CapV) = CapV.clear (⟨cb, ct, ca, cp, cy, true⟩ : CapV) := by simp only [unsealC, CapV.live, CapV.sealed, Ha2.out, Ha3.out, Bool.false_and, Bool.and_false, Bool.true_and, Bool.and_true, Bool.not_true, Bool.not_false, Bool.false_or, Bool.or_false, Bool.true_or, Bool.or_true, if_true, if_false, Bool.false_eq_true]
          rw [hb0]
          clear hb0
          go_enter Tryz.func144, Tryz.ntmps144
          go_wp2_with (first | (go_at_call 181; refine (key_t _ _ _ _ _ _ _).mono ?_; rintro e w1 ⟨rfl, rfl⟩) | (go_at_call 115; refine (sealed_any _ _ _ _ _ _ _).mono ?_; rintro e w1 ⟨rfl, rfl⟩) | (go_at_call 147; refine (clear_any _ _ _ _ _ _ _).mono ?_; rintro e w1 ⟨rfl, rfl⟩))
          exact bodyPost_ret (v := .agg #[.int .u64 cb, .int .u64 ct, .int .u64 ca, .int .i64 cp, .int .i64 cy, .bool false]) (by simp [results, Tryz.results144, go_sem, CapV.clear]) rfl ⟨rfl, (by repeat' (first | (with_reducible refine Below.setCell ?_ ?_ _) | (with_reducible refine bAlloc ?_ _) | (with_reducible refine bDrewN ?_ _) | (with_reducible refine Below.drew ?_) | (with_reducible exact Below.refl _ _) | (simp; done) | (simp; omega)))⟩
        · have Ha3 := Lib.hid ta3
          cases ta4 : (ka == IntKind.u64.wrap cy)
          · have Ha4 := Lib.hid ta4
            have hb0 : unsealC (⟨cb, ct, ca, cp, cy, true⟩ : CapV) (⟨kb, kt, ka, kp, ky, true⟩ : CapV) = CapV.clear (⟨cb, ct, ca, cp, cy, true⟩ : CapV) := by simp only [unsealC, CapV.live, CapV.sealed, Ha2.out, Ha3.out, Ha4.out, Bool.false_and, Bool.and_false, Bool.true_and, Bool.and_true, Bool.not_true, Bool.not_false, Bool.false_or, Bool.or_false, Bool.true_or, Bool.or_true, if_true, if_false, Bool.false_eq_true]
            rw [hb0]
            clear hb0
            have Hne := Lib.hid (show (ka != IntKind.u64.wrap cy) = true by rw [bne, ta4]; rfl)
            have hne := Hne.out
            clear ta4
            go_enter Tryz.func144, Tryz.ntmps144
            go_wp2_with (first | (go_at_call 181; refine (key_t _ _ _ _ _ _ _).mono ?_; rintro e w1 ⟨rfl, rfl⟩) | (go_at_call 115; refine (sealed_any _ _ _ _ _ _ _).mono ?_; rintro e w1 ⟨rfl, rfl⟩) | (go_at_call 147; refine (clear_any _ _ _ _ _ _ _).mono ?_; rintro e w1 ⟨rfl, rfl⟩))
            exact bodyPost_ret (v := .agg #[.int .u64 cb, .int .u64 ct, .int .u64 ca, .int .i64 cp, .int .i64 cy, .bool false]) (by simp [results, Tryz.results144, go_sem, CapV.clear]) rfl ⟨rfl, (by repeat' (first | (with_reducible refine Below.setCell ?_ ?_ _) | (with_reducible refine bAlloc ?_ _) | (with_reducible refine bDrewN ?_ _) | (with_reducible refine Below.drew ?_) | (with_reducible exact Below.refl _ _) | (simp; done) | (simp; omega)))⟩
          · have Ha4 := Lib.hid ta4
            have hb0 : unsealC (⟨cb, ct, ca, cp, cy, true⟩ : CapV) (⟨kb, kt, ka, kp, ky, true⟩ : CapV) = (⟨cb, ct, ca, cp, -1, true⟩ : CapV) := by simp only [unsealC, CapV.live, CapV.sealed, Ha2.out, Ha3.out, Ha4.out, Bool.false_and, Bool.and_false, Bool.true_and, Bool.and_true, Bool.not_true, Bool.not_false, Bool.false_or, Bool.or_false, Bool.true_or, Bool.or_true, if_true, if_false, Bool.false_eq_true]
            rw [hb0]
            clear hb0
            have Hne := Lib.hid (show (ka != IntKind.u64.wrap cy) = false by rw [bne, ta4]; rfl)
            have hne := Hne.out
            clear ta4
            go_enter Tryz.func144, Tryz.ntmps144
            go_wp2_with (first | (go_at_call 181; refine (key_t _ _ _ _ _ _ _).mono ?_; rintro e w1 ⟨rfl, rfl⟩) | (go_at_call 115; refine (sealed_any _ _ _ _ _ _ _).mono ?_; rintro e w1 ⟨rfl, rfl⟩) | (go_at_call 147; refine (clear_any _ _ _ _ _ _ _).mono ?_; rintro e w1 ⟨rfl, rfl⟩))
            exact bodyPost_ret (v := .agg #[.int .u64 cb, .int .u64 ct, .int .u64 ca, .int .i64 cp, .int .i64 (-1), .bool true]) (by simp [results, Tryz.results144, go_sem, CapV.clear]) rfl ⟨rfl, (by repeat' (first | (with_reducible refine Below.setCell ?_ ?_ _) | (with_reducible refine bAlloc ?_ _) | (with_reducible refine bDrewN ?_ _) | (with_reducible refine Below.drew ?_) | (with_reducible exact Below.refl _ _) | (simp; done) | (simp; omega)))⟩
    · have ta2 : decide (0 ≤ cy) = false := decide_eq_false a2
      have Ha2 := Lib.hid ta2
      have hb0 : unsealC (⟨cb, ct, ca, cp, cy, true⟩ : CapV) (⟨kb, kt, ka, kp, ky, kg⟩ : CapV) = CapV.clear (⟨cb, ct, ca, cp, cy, true⟩ : CapV) := by simp only [unsealC, CapV.live, CapV.sealed, Ha2.out, Bool.false_and, Bool.and_false, Bool.true_and, Bool.and_true, Bool.not_true, Bool.not_false, Bool.false_or, Bool.or_false, Bool.true_or, Bool.or_true, if_true, if_false, Bool.false_eq_true]
      rw [hb0]
      clear hb0
      go_enter Tryz.func144, Tryz.ntmps144
      go_wp2_with (first | (go_at_call 181; refine (key_t _ _ _ _ _ _ _).mono ?_; rintro e w1 ⟨rfl, rfl⟩) | (go_at_call 115; refine (sealed_any _ _ _ _ _ _ _).mono ?_; rintro e w1 ⟨rfl, rfl⟩) | (go_at_call 147; refine (clear_any _ _ _ _ _ _ _).mono ?_; rintro e w1 ⟨rfl, rfl⟩))
      exact bodyPost_ret (v := .agg #[.int .u64 cb, .int .u64 ct, .int .u64 ca, .int .i64 cp, .int .i64 cy, .bool false]) (by simp [results, Tryz.results144, go_sem, CapV.clear]) rfl ⟨rfl, (by repeat' (first | (with_reducible refine Below.setCell ?_ ?_ _) | (with_reducible refine bAlloc ?_ _) | (with_reducible refine bDrewN ?_ _) | (with_reducible refine Below.drew ?_) | (with_reducible exact Below.refl _ _) | (simp; done) | (simp; omega)))⟩
set_option maxHeartbeats 1000000 in
theorem check_any (cb ct ca cp cy : Int) (cg : Bool) (n p : Int) (w : World) (h1 : 0 ≤ ca) (h2 : ca < 18446744073709551616) (h3 : 0 ≤ n) :
    Calls Tryz.prog 85 #[.agg #[.int .u64 cb, .int .u64 ct, .int .u64 ca, .int .i64 cp, .int .i64 cy, .bool cg], .int .u64 n, .int .i64 p] w fun e w' => e = .returned (.int .i64 (capCheckC (⟨cb, ct, ca, cp, cy, cg⟩ : CapV) n p)) ∧ Below w.heap.size w w' := by
  cases cg
  · skip
    have hb0 : capCheckC (⟨cb, ct, ca, cp, cy, false⟩ : CapV) n p = 20 := by simp only [capCheckC, CapV.sealed, Bool.false_and, Bool.and_false, Bool.true_and, Bool.and_true, Bool.not_true, Bool.not_false, Bool.false_or, Bool.or_false, Bool.true_or, Bool.or_true, if_true, if_false, Bool.false_eq_true]
    rw [hb0]
    clear hb0
    go_enter Tryz.func85, Tryz.ntmps85
    go_wp2_with (first | (go_at_call 131; refine (caphas_any _ _ _ _ _ _ _ _ h1 h2 h3).mono ?_; rintro e w1 ⟨rfl, rfl⟩) | (go_at_call 115; refine (sealed_any _ _ _ _ _ _ _).mono ?_; rintro e w1 ⟨rfl, rfl⟩))
    go_ret
    exact ⟨rfl, (by repeat' (first | (with_reducible refine Below.setCell ?_ ?_ _) | (with_reducible refine bAlloc ?_ _) | (with_reducible refine bDrewN ?_ _) | (with_reducible refine Below.drew ?_) | (with_reducible exact Below.refl _ _) | (simp; done) | (simp; omega)))⟩
  · skip
    by_cases a2 : 0 ≤ cy
    · have ta2 : decide (0 ≤ cy) = true := decide_eq_true a2
      have Ha2 := Lib.hid ta2
      have hb0 : capCheckC (⟨cb, ct, ca, cp, cy, true⟩ : CapV) n p = 21 := by simp only [capCheckC, CapV.sealed, Ha2.out, Bool.false_and, Bool.and_false, Bool.true_and, Bool.and_true, Bool.not_true, Bool.not_false, Bool.false_or, Bool.or_false, Bool.true_or, Bool.or_true, if_true, if_false, Bool.false_eq_true]
      rw [hb0]
      clear hb0
      go_enter Tryz.func85, Tryz.ntmps85
      go_wp2_with (first | (go_at_call 131; refine (caphas_any _ _ _ _ _ _ _ _ h1 h2 h3).mono ?_; rintro e w1 ⟨rfl, rfl⟩) | (go_at_call 115; refine (sealed_any _ _ _ _ _ _ _).mono ?_; rintro e w1 ⟨rfl, rfl⟩))
      go_ret
      exact ⟨rfl, (by repeat' (first | (with_reducible refine Below.setCell ?_ ?_ _) | (with_reducible refine bAlloc ?_ _) | (with_reducible refine bDrewN ?_ _) | (with_reducible refine Below.drew ?_) | (with_reducible exact Below.refl _ _) | (simp; done) | (simp; omega)))⟩
    · have ta2 : decide (0 ≤ cy) = false := decide_eq_false a2
      have Ha2 := Lib.hid ta2
      cases ta3 : (bits .and .i64 cp p == p)
      · have Ha3 := Lib.hid ta3
        have hb0 : capCheckC (⟨cb, ct, ca, cp, cy, true⟩ : CapV) n p = 22 := by simp only [capCheckC, CapV.sealed, Ha2.out, Ha3.out, Bool.false_and, Bool.and_false, Bool.true_and, Bool.and_true, Bool.not_true, Bool.not_false, Bool.false_or, Bool.or_false, Bool.true_or, Bool.or_true, if_true, if_false, Bool.false_eq_true]
        rw [hb0]
        clear hb0
        have hne : (bits .and .i64 cp p != p) = true := by rw [bne, ta3]; rfl
        go_enter Tryz.func85, Tryz.ntmps85
        go_wp2_with (first | (go_at_call 131; refine (caphas_any _ _ _ _ _ _ _ _ h1 h2 h3).mono ?_; rintro e w1 ⟨rfl, rfl⟩) | (go_at_call 115; refine (sealed_any _ _ _ _ _ _ _).mono ?_; rintro e w1 ⟨rfl, rfl⟩))
        go_ret
        exact ⟨rfl, (by repeat' (first | (with_reducible refine Below.setCell ?_ ?_ _) | (with_reducible refine bAlloc ?_ _) | (with_reducible refine bDrewN ?_ _) | (with_reducible refine Below.drew ?_) | (with_reducible exact Below.refl _ _) | (simp; done) | (simp; omega)))⟩
      · have Ha3 := Lib.hid ta3
        cases ta4 : hasC (⟨cb, ct, ca, cp, cy, true⟩ : CapV) n
        · have Ha4 := Lib.hid ta4
          have hb0 : capCheckC (⟨cb, ct, ca, cp, cy, true⟩ : CapV) n p = 23 := by simp only [capCheckC, CapV.sealed, Ha2.out, Ha3.out, Ha4.out, Bool.false_and, Bool.and_false, Bool.true_and, Bool.and_true, Bool.not_true, Bool.not_false, Bool.false_or, Bool.or_false, Bool.true_or, Bool.or_true, if_true, if_false, Bool.false_eq_true]
          rw [hb0]
          clear hb0
          have hne : (bits .and .i64 cp p != p) = false := by rw [bne, ta3]; rfl
          go_enter Tryz.func85, Tryz.ntmps85
          go_wp2_with (first | (go_at_call 131; refine (caphas_any _ _ _ _ _ _ _ _ h1 h2 h3).mono ?_; rintro e w1 ⟨rfl, rfl⟩) | (go_at_call 115; refine (sealed_any _ _ _ _ _ _ _).mono ?_; rintro e w1 ⟨rfl, rfl⟩))
          go_ret
          exact ⟨rfl, (by repeat' (first | (with_reducible refine Below.setCell ?_ ?_ _) | (with_reducible refine bAlloc ?_ _) | (with_reducible refine bDrewN ?_ _) | (with_reducible refine Below.drew ?_) | (with_reducible exact Below.refl _ _) | (simp; done) | (simp; omega)))⟩
        · have Ha4 := Lib.hid ta4
          have hb0 : capCheckC (⟨cb, ct, ca, cp, cy, true⟩ : CapV) n p = 0 := by simp only [capCheckC, CapV.sealed, Ha2.out, Ha3.out, Ha4.out, Bool.false_and, Bool.and_false, Bool.true_and, Bool.and_true, Bool.not_true, Bool.not_false, Bool.false_or, Bool.or_false, Bool.true_or, Bool.or_true, if_true, if_false, Bool.false_eq_true]
          rw [hb0]
          clear hb0
          have hne : (bits .and .i64 cp p != p) = false := by rw [bne, ta3]; rfl
          go_enter Tryz.func85, Tryz.ntmps85
          go_wp2_with (first | (go_at_call 131; refine (caphas_any _ _ _ _ _ _ _ _ h1 h2 h3).mono ?_; rintro e w1 ⟨rfl, rfl⟩) | (go_at_call 115; refine (sealed_any _ _ _ _ _ _ _).mono ?_; rintro e w1 ⟨rfl, rfl⟩))
          go_ret
          exact ⟨rfl, (by repeat' (first | (with_reducible refine Below.setCell ?_ ?_ _) | (with_reducible refine bAlloc ?_ _) | (with_reducible refine bDrewN ?_ _) | (with_reducible refine Below.drew ?_) | (with_reducible exact Below.refl _ _) | (simp; done) | (simp; omega)))⟩
set_option maxHeartbeats 1000000 in
theorem within_any (cb ct ca cp cy : Int) (cg : Bool) (db dt da dp dy : Int) (dg : Bool) (w : World) :
    Calls Tryz.prog 146 #[.agg #[.int .u64 cb, .int .u64 ct, .int .u64 ca, .int .i64 cp, .int .i64 cy, .bool cg], .agg #[.int .u64 db, .int .u64 dt, .int .u64 da, .int .i64 dp, .int .i64 dy, .bool dg]] w fun e w' => e = .returned (.bool (withinC (⟨cb, ct, ca, cp, cy, cg⟩ : CapV) (⟨db, dt, da, dp, dy, dg⟩ : CapV))) ∧ Below w.heap.size w w' := by
  cases cg
  · skip
    go_enter Tryz.func146, Tryz.ntmps146
    go_wp2
    go_ret
    exact ⟨ret_bool (by simp only [withinC, Bool.false_and, Bool.and_false, Bool.true_and, Bool.and_true, Bool.not_true, Bool.not_false, Bool.false_or, Bool.or_false, Bool.true_or, Bool.or_true, if_true, if_false, Bool.false_eq_true]), (by repeat' (first | (with_reducible refine Below.setCell ?_ ?_ _) | (with_reducible refine bAlloc ?_ _) | (with_reducible refine bDrewN ?_ _) | (with_reducible refine Below.drew ?_) | (with_reducible exact Below.refl _ _) | (simp; done) | (simp; omega)))⟩
  · skip
    by_cases a1 : cb < ct
    · have ta1 : decide (cb < ct) = true := decide_eq_true a1
      have Ha1 := Lib.hid ta1
      by_cases a2 : cb < db
      · have ta2 : decide (cb < db) = true := decide_eq_true a2
        have Ha2 := Lib.hid ta2
        go_enter Tryz.func146, Tryz.ntmps146
        go_wp2
        go_ret
        exact ⟨ret_bool (by simp only [withinC, Ha1.out, Ha2.out, Bool.false_and, Bool.and_false, Bool.true_and, Bool.and_true, Bool.not_true, Bool.not_false, Bool.false_or, Bool.or_false, Bool.true_or, Bool.or_true, if_true, if_false, Bool.false_eq_true]), (by repeat' (first | (with_reducible refine Below.setCell ?_ ?_ _) | (with_reducible refine bAlloc ?_ _) | (with_reducible refine bDrewN ?_ _) | (with_reducible refine Below.drew ?_) | (with_reducible exact Below.refl _ _) | (simp; done) | (simp; omega)))⟩
      · have ta2 : decide (cb < db) = false := decide_eq_false a2
        have Ha2 := Lib.hid ta2
        by_cases a3 : dt < ct
        · have ta3 : decide (dt < ct) = true := decide_eq_true a3
          have Ha3 := Lib.hid ta3
          go_enter Tryz.func146, Tryz.ntmps146
          go_wp2
          go_ret
          exact ⟨ret_bool (by simp only [withinC, Ha1.out, Ha2.out, Ha3.out, Bool.false_and, Bool.and_false, Bool.true_and, Bool.and_true, Bool.not_true, Bool.not_false, Bool.false_or, Bool.or_false, Bool.true_or, Bool.or_true, if_true, if_false, Bool.false_eq_true]), (by repeat' (first | (with_reducible refine Below.setCell ?_ ?_ _) | (with_reducible refine bAlloc ?_ _) | (with_reducible refine bDrewN ?_ _) | (with_reducible refine Below.drew ?_) | (with_reducible exact Below.refl _ _) | (simp; done) | (simp; omega)))⟩
        · have ta3 : decide (dt < ct) = false := decide_eq_false a3
          have Ha3 := Lib.hid ta3
          cases ta4 : (bits .and .i64 cp dp == cp)
          · have Ha4 := Lib.hid ta4
            have hne : (bits .and .i64 cp dp != cp) = true := by rw [bne, ta4]; rfl
            go_enter Tryz.func146, Tryz.ntmps146
            go_wp2
            go_ret
            exact ⟨ret_bool (by simp only [withinC, Ha1.out, Ha2.out, Ha3.out, Ha4.out, Bool.false_and, Bool.and_false, Bool.true_and, Bool.and_true, Bool.not_true, Bool.not_false, Bool.false_or, Bool.or_false, Bool.true_or, Bool.or_true, if_true, if_false, Bool.false_eq_true]), (by repeat' (first | (with_reducible refine Below.setCell ?_ ?_ _) | (with_reducible refine bAlloc ?_ _) | (with_reducible refine bDrewN ?_ _) | (with_reducible refine Below.drew ?_) | (with_reducible exact Below.refl _ _) | (simp; done) | (simp; omega)))⟩
          · have Ha4 := Lib.hid ta4
            cases ta6 : (cy == dy)
            · have Ha6 := Lib.hid ta6
              have hne : (bits .and .i64 cp dp != cp) = false := by rw [bne, ta4]; rfl
              go_enter Tryz.func146, Tryz.ntmps146
              go_wp2
              go_region
              go_wp2
              go_ret
              exact ⟨ret_bool (by simp [withinC, Ha1.out, Ha2.out, Ha3.out, Ha4.out, Ha6.out]), (by repeat' (first | (with_reducible refine Below.setCell ?_ ?_ _) | (with_reducible refine bAlloc ?_ _) | (with_reducible refine bDrewN ?_ _) | (with_reducible refine Below.drew ?_) | (with_reducible exact Below.refl _ _) | (simp; done) | (simp; omega)))⟩
            · have Ha6 := Lib.hid ta6
              cases dg
              · skip
                have hne : (bits .and .i64 cp dp != cp) = false := by rw [bne, ta4]; rfl
                go_enter Tryz.func146, Tryz.ntmps146
                go_wp2
                go_region
                go_wp2
                go_ret
                exact ⟨ret_bool (by simp [withinC, Ha1.out, Ha2.out, Ha3.out, Ha4.out, Ha6.out]), (by repeat' (first | (with_reducible refine Below.setCell ?_ ?_ _) | (with_reducible refine bAlloc ?_ _) | (with_reducible refine bDrewN ?_ _) | (with_reducible refine Below.drew ?_) | (with_reducible exact Below.refl _ _) | (simp; done) | (simp; omega)))⟩
              · skip
                have hne : (bits .and .i64 cp dp != cp) = false := by rw [bne, ta4]; rfl
                go_enter Tryz.func146, Tryz.ntmps146
                go_wp2
                go_region
                go_wp2
                go_ret
                exact ⟨ret_bool (by simp [withinC, Ha1.out, Ha2.out, Ha3.out, Ha4.out, Ha6.out]), (by repeat' (first | (with_reducible refine Below.setCell ?_ ?_ _) | (with_reducible refine bAlloc ?_ _) | (with_reducible refine bDrewN ?_ _) | (with_reducible refine Below.drew ?_) | (with_reducible exact Below.refl _ _) | (simp; done) | (simp; omega)))⟩
    · have ta1 : decide (cb < ct) = false := decide_eq_false a1
      have Ha1 := Lib.hid ta1
      cases ta4 : (bits .and .i64 cp dp == cp)
      · have Ha4 := Lib.hid ta4
        have hne : (bits .and .i64 cp dp != cp) = true := by rw [bne, ta4]; rfl
        go_enter Tryz.func146, Tryz.ntmps146
        go_wp2
        go_ret
        exact ⟨ret_bool (by simp only [withinC, Ha1.out, Ha4.out, Bool.false_and, Bool.and_false, Bool.true_and, Bool.and_true, Bool.not_true, Bool.not_false, Bool.false_or, Bool.or_false, Bool.true_or, Bool.or_true, if_true, if_false, Bool.false_eq_true]), (by repeat' (first | (with_reducible refine Below.setCell ?_ ?_ _) | (with_reducible refine bAlloc ?_ _) | (with_reducible refine bDrewN ?_ _) | (with_reducible refine Below.drew ?_) | (with_reducible exact Below.refl _ _) | (simp; done) | (simp; omega)))⟩
      · have Ha4 := Lib.hid ta4
        cases ta6 : (cy == dy)
        · have Ha6 := Lib.hid ta6
          have hne : (bits .and .i64 cp dp != cp) = false := by rw [bne, ta4]; rfl
          go_enter Tryz.func146, Tryz.ntmps146
          go_wp2
          go_region
          go_wp2
          go_ret
          exact ⟨ret_bool (by simp [withinC, Ha1.out, Ha4.out, Ha6.out]), (by repeat' (first | (with_reducible refine Below.setCell ?_ ?_ _) | (with_reducible refine bAlloc ?_ _) | (with_reducible refine bDrewN ?_ _) | (with_reducible refine Below.drew ?_) | (with_reducible exact Below.refl _ _) | (simp; done) | (simp; omega)))⟩
        · have Ha6 := Lib.hid ta6
          cases dg
          · skip
            have hne : (bits .and .i64 cp dp != cp) = false := by rw [bne, ta4]; rfl
            go_enter Tryz.func146, Tryz.ntmps146
            go_wp2
            go_region
            go_wp2
            go_ret
            exact ⟨ret_bool (by simp [withinC, Ha1.out, Ha4.out, Ha6.out]), (by repeat' (first | (with_reducible refine Below.setCell ?_ ?_ _) | (with_reducible refine bAlloc ?_ _) | (with_reducible refine bDrewN ?_ _) | (with_reducible refine Below.drew ?_) | (with_reducible exact Below.refl _ _) | (simp; done) | (simp; omega)))⟩
          · skip
            have hne : (bits .and .i64 cp dp != cp) = false := by rw [bne, ta4]; rfl
            go_enter Tryz.func146, Tryz.ntmps146
            go_wp2
            go_region
            go_wp2
            go_ret
            exact ⟨ret_bool (by simp [withinC, Ha1.out, Ha4.out, Ha6.out]), (by repeat' (first | (with_reducible refine Below.setCell ?_ ?_ _) | (with_reducible refine bAlloc ?_ _) | (with_reducible refine bDrewN ?_ _) | (with_reducible refine Below.drew ?_) | (with_reducible exact Below.refl _ _) | (simp; done) | (simp; omega)))⟩
end Go.Proofs.YtegoddghfjfibaaGreatDoor.Ce

