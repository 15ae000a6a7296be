/- The document's Touches; capabilities that are right; the examples; SweepTouches' walk. -/
import Derived.Test.YtkkabhmcmdgpdaaSwA
namespace Go.Proofs.Ytkkabhmcmdgpdaa
set_option linter.unusedVariables false
set_option linter.unusedSimpArgs false
open Go.Joins Go.ChangeShapes Go.WideShapes Go.ChangeAt Go.RowKit

theorem rtouches_any (cb ct ca cp cy : Int) (cg : Bool) (f n ty : Int) (w : World) (a0 : 0 ≤ cb) (a1 : cb < 18446744073709551616) (b0 : 0 ≤ ct) (b1 : ct < 18446744073709551616) (c0 : 0 ≤ f) (c1 : f < 18446744073709551616) :
    Calls Try.prog 7 #[.agg #[.int .u64 cb, .int .u64 ct, .int .u64 ca, .int .i64 cp, .int .i64 cy, .bool cg], .int .u64 f, .int .u64 n, .int .i64 ty] w fun e w' => e = .returned (.bool (refB cb ct cy cg f n ty)) ∧ Below w.heap.size w w' := by
  cases cg
  · go_enter Try.func7, Try.ntmps7
    go_wp2_with fail
    go_ret
    exact ⟨rfl, bAlloc (Below.refl _ _) _⟩
  · by_cases hty : 0 ≤ ty ∧ cy = ty
    · obtain ⟨h1, rfl⟩ := hty
      have e : refB cb ct cy true f n cy = true := by unfold refB; simp [h1]
      have E := Lib.hid e
      clear e
      go_enter Try.func7, Try.ntmps7
      go_wp2_with fail
      go_ret
      exact ⟨ret_bool E.out.symm, bAlloc (Below.refl _ _) _⟩
    · by_cases hle : ct ≤ cb
      · have e : refB cb ct cy true f n ty = amongB cb f n := by unfold refB; simp [hty, hle]
        have E := Lib.hid e
        have HA := Lib.hid (fun w => among_any cb f n w a0 a1 c0)
        have HTY := Lib.hid hty
        have d : decide (ct ≤ cb) = true := decide_eq_true hle
        clear e hty
        generalize amongB cb f n = r at *
        go_enter Try.func7, Try.ntmps7
        go_wp2_with (go_at_call 10; (with_reducible refine (HA.out _).mono ?_); rintro e w' ⟨rfl, rfl⟩)
        all_goals first
          | (exfalso; have hh := HTY.out; simp_all; done)
          | (go_ret; exact ⟨ret_bool E.out.symm, bAlloc (Below.refl _ _) _⟩)
      · have e : refB cb ct cy true f n ty = (amongB cb f n || (decide (0 < n) && amongB f cb (ct - cb))) := by unfold refB; simp [hty, hle]
        have E := Lib.hid e
        have HA := Lib.hid (fun w => among_any cb f n w a0 a1 c0)
        have HA2 := Lib.hid (fun w => among_any f cb (ct - cb) w c0 c1 a0)
        have HTY := Lib.hid hty
        have d : decide (ct ≤ cb) = false := decide_eq_false hle
        have hs : IntKind.u64.wrap (ct - cb) = ct - cb := by rw [IntKind.wrap_u64]; omega
        clear e hty
        generalize amongB cb f n = r at *
        generalize amongB f cb (ct - cb) = r2 at *
        go_enter Try.func7, Try.ntmps7
        go_wp2_with (first | (go_at_call 10; (with_reducible refine (HA.out _).mono ?_); rintro e w' ⟨rfl, rfl⟩) | (go_at_call 10; (with_reducible refine (HA2.out _).mono ?_); rintro e w' ⟨rfl, rfl⟩))
        all_goals first
          | (exfalso; have hh := HTY.out; simp_all; done)
          | (have e2 := E.out
             go_ret
             refine ⟨ret_bool ?_, bAlloc (Below.refl _ _) _⟩
             rw [e2]
             simp_all <;> (intro hn; exfalso; omega))
def rightB (cp cy : Int) : Bool := decide (0 ≤ cp ∧ cp ≤ 255 ∧ -1 ≤ cy ∧ cy ≤ 63)
theorem right_any (cb ct ca cp cy : Int) (cg : Bool) (w : World) :
    Calls Try.prog 5 #[.agg #[.int .u64 cb, .int .u64 ct, .int .u64 ca, .int .i64 cp, .int .i64 cy, .bool cg]] w fun e w' => e = .returned (.bool (rightB cp cy)) ∧ Below w.heap.size w w' := by
  go_enter Try.func5, Try.ntmps5
  go_wp2_with fail
  all_goals
    go_ret
    refine ⟨ret_bool ?_, bAlloc (Below.refl _ _) _⟩
    unfold rightB
    rw [Bool.eq_iff_iff]
    simp only [decide_eq_true_eq, Bool.false_eq_true, false_iff]
    omega
theorem of_any (b t y : Int) (w : World) :
    Calls Try.prog 8 #[.int .u64 b, .int .u64 t, .int .i64 y] w fun e w' => e = .returned (.agg #[.int .u64 b, .int .u64 t, .int .u64 b, .int .i64 3, .int .i64 y, .bool true]) ∧ Below w.heap.size w w' := by
  go_enter Try.func8, Try.ntmps8
  go_wp2_with fail
  refine bodyPost_ret (v := .agg #[.int .u64 b, .int .u64 t, .int .u64 b, .int .i64 3, .int .i64 y, .bool true]) ?_ rfl ⟨rfl, ?_⟩
  · simp [results, Try.results8, go_sem]
  · repeat' (first | (with_reducible refine Below.setCell ?_ ?_ _) | exact bAlloc (Below.refl _ _) _ | exact Nat.le_refl _)
theorem ex1 : touchB 0 256 (-1) true 256 256 9 = false := by decide +kernel
theorem ex2 : touchB 0 257 (-1) true 256 256 9 = true := by decide +kernel
theorem ex3 : touchB 511 600 (-1) true 256 256 9 = true := by decide +kernel
theorem ex4 : touchB 512 600 (-1) true 256 256 9 = false := by decide +kernel
theorem ex5 : touchB 300 300 (-1) true 256 256 9 = true := by decide +kernel
theorem ex6 : touchB 0 9 9 true 256 256 9 = true := by decide +kernel
theorem ex7 : touchB 300 400 9 false 256 256 9 = false := by decide +kernel
set_option maxHeartbeats 1000000 in
theorem awake_any (w : World) : Calls Try.prog 4 #[] w fun e w' => e = .returned (.bool true) ∧ Below w.heap.size w w' := by
  go_enter Try.func4, Try.ntmps4
  go_wp2_with fail
  refine (of_any _ _ _ _).mono ?_; rintro e w1 ⟨rfl, hb⟩; have H1 := Lib.hid hb; clear hb
  go_wp2_with fail
  refine (touches_any _ _ _ _ _ _ _ _ _ _).mono ?_; rintro e w2 ⟨rfl, hb⟩; rw [ex1]; have H2 := Lib.hid (bTrans H1.out hb); clear hb
  go_wp2_with fail
  refine (of_any _ _ _ _).mono ?_; rintro e w3 ⟨rfl, hb⟩; have H3 := Lib.hid (bTrans H2.out hb); clear hb
  go_wp2_with fail
  refine (touches_any _ _ _ _ _ _ _ _ _ _).mono ?_; rintro e w4 ⟨rfl, hb⟩; rw [ex2]; have H4 := Lib.hid (bTrans H3.out hb); clear hb
  go_wp2_with fail
  refine (of_any _ _ _ _).mono ?_; rintro e w5 ⟨rfl, hb⟩; have H5 := Lib.hid (bTrans H4.out hb); clear hb
  go_wp2_with fail
  refine (touches_any _ _ _ _ _ _ _ _ _ _).mono ?_; rintro e w6 ⟨rfl, hb⟩; rw [ex3]; have H6 := Lib.hid (bTrans H5.out hb); clear hb
  go_wp2_with fail
  refine (of_any _ _ _ _).mono ?_; rintro e w7 ⟨rfl, hb⟩; have H7 := Lib.hid (bTrans H6.out hb); clear hb
  go_wp2_with fail
  refine (touches_any _ _ _ _ _ _ _ _ _ _).mono ?_; rintro e w8 ⟨rfl, hb⟩; rw [ex4]; have H8 := Lib.hid (bTrans H7.out hb); clear hb
  go_wp2_with fail
  refine (of_any _ _ _ _).mono ?_; rintro e w9 ⟨rfl, hb⟩; have H9 := Lib.hid (bTrans H8.out hb); clear hb
  go_wp2_with fail
  refine (touches_any _ _ _ _ _ _ _ _ _ _).mono ?_; rintro e w10 ⟨rfl, hb⟩; rw [ex5]; have H10 := Lib.hid (bTrans H9.out hb); clear hb
  go_wp2_with fail
  refine (of_any _ _ _ _).mono ?_; rintro e w11 ⟨rfl, hb⟩; have H11 := Lib.hid (bTrans H10.out hb); clear hb
  go_wp2_with fail
  refine (touches_any _ _ _ _ _ _ _ _ _ _).mono ?_; rintro e w12 ⟨rfl, hb⟩; rw [ex6]; have H12 := Lib.hid (bTrans H11.out hb); clear hb
  go_wp2_with fail
  refine (of_any _ _ _ _).mono ?_; rintro e w13 ⟨rfl, hb⟩; have H13 := Lib.hid (bTrans H12.out hb); clear hb
  go_wp2_with fail
  refine (touches_any _ _ _ _ _ _ _ _ _ _).mono ?_; rintro e w14 ⟨rfl, hb⟩; rw [ex7]; have H14 := Lib.hid (bTrans (bAlloc H13.out _) hb); clear hb
  go_wp2_with fail
  go_ret
  exact ⟨rfl, H14.out⟩
/-- the six cells of a capability that was laid into a block of its own -/
def Six (W : World) (B : Nat) (cb ct ca cp cy : Int) (cg : Bool) : Prop := W.cell? ⟨B, 0, none⟩ = some (.int .u64 cb) ∧ W.cell? ⟨B, 1, none⟩ = some (.int .u64 ct) ∧ W.cell? ⟨B, 2, none⟩ = some (.int .u64 ca) ∧ W.cell? ⟨B, 3, none⟩ = some (.int .i64 cp) ∧ W.cell? ⟨B, 4, none⟩ = some (.int .i64 cy) ∧ W.cell? ⟨B, 5, none⟩ = some (.bool cg)
theorem Six.of {w W : World} {cb ct ca cp cy : Int} {cg : Bool} {t : TypeId} (h : Below (w.alloc (.cells #[.int .u64 cb, .int .u64 ct, .int .u64 ca, .int .i64 cp, .int .i64 cy, .bool cg] t)).heap.size (w.alloc (.cells #[.int .u64 cb, .int .u64 ct, .int .u64 ca, .int .i64 cp, .int .i64 cy, .bool cg] t)) W) : Six W w.heap.size cb ct ca cp cy cg :=
  ⟨(boxed h 0).trans rfl, (boxed h 1).trans rfl, (boxed h 2).trans rfl, (boxed h 3).trans rfl, (boxed h 4).trans rfl, (boxed h 5).trans rfl⟩
theorem Six.below {W W' : World} {B : Nat} {cb ct ca cp cy : Int} {cg : Bool} (h : Six W B cb ct ca cp cy cg) (hb : Below W.heap.size W W') : Six W' B cb ct ca cp cy cg := by
  obtain ⟨h0, h1, h2, h3, h4, h5⟩ := h
  have hl := heap_lt_of_cell h0
  have g : ∀ j v, W.cell? ⟨B, j, none⟩ = some v → W'.cell? ⟨B, j, none⟩ = some v := fun j v q => (hb.cell (p := ⟨B, j, none⟩) hl).trans q
  exact ⟨g _ _ h0, g _ _ h1, g _ _ h2, g _ _ h3, g _ _ h4, g _ _ h5⟩
set_option maxHeartbeats 1000000 in
theorem SweepTouches_walk (cb ct ca cp cy : Int) (cg : Bool) (f n ty : Int) (w : World) (a0 : 0 ≤ cb) (a1 : cb < 18446744073709551616) (b0 : 0 ≤ ct) (b1 : ct < 18446744073709551616) (c0 : 0 ≤ f) (c1 : f < 18446744073709551616) (d0 : 0 ≤ n) (d1 : n < 18446744073709551616) :
    Calls Try.prog 3 #[.agg #[.int .u64 cb, .int .u64 ct, .int .u64 ca, .int .i64 cp, .int .i64 cy, .bool cg], .int .u64 f, .int .u64 n, .int .i64 ty] w fun e w' => e = .returned (.bool true) ∧ Below w.heap.size w w' := by
  have HT := Lib.hid (fun w => touches_any cb ct ca cp cy cg f n ty w)
  have HR := Lib.hid (fun w => rtouches_any cb ct ca cp cy cg f n ty w a0 a1 b0 b1 c0 c1)
  rw [touch_same cb ct cy cg f n ty a0 a1 b0 b1 c0 c1 d0 d1] at HT
  have hself : (refB cb ct cy cg f n ty == refB cb ct cy cg f n ty) = true := beq_self_eq_true _
  generalize refB cb ct cy cg f n ty = r at *
  have HRI := Lib.hid (fun w => right_any cb ct ca cp cy cg w)
  generalize rightB cp cy = ri at *
  have HSX := Lib.hid (fun W h => Six.of (w := w) (W := W) (cb := cb) (ct := ct) (ca := ca) (cp := cp) (cy := cy) (cg := cg) (t := 24) h)
  clear a0 a1 b0 b1 c0 c1 d0 d1
  go_enter Try.func3, Try.ntmps3
  go_wp2_with fail
  refine (awake_any _).mono ?_; rintro e w1 ⟨rfl, hb⟩
  have H1 := Lib.hid (bTrans (bAlloc (Below.refl _ _) _) hb)
  have hs := HSX.out _ hb
  have S1 := Lib.hid hs
  obtain ⟨k0, k1, k2, k3, k4, k5⟩ := hs
  clear hb
  go_wp2_with fail
  refine (HRI.out _).mono ?_; rintro e w2 ⟨rfl, hb⟩
  have H2 := Lib.hid (bTrans H1.out hb)
  have hs := S1.out.below hb
  have S2 := Lib.hid hs
  clear hb k0 k1 k2 k3 k4 k5
  obtain ⟨k0, k1, k2, k3, k4, k5⟩ := hs
  cases ri
  · go_wp2_with fail
    go_ret
    exact ⟨rfl, H2.out⟩
  · go_wp2_with fail
    refine (HT.out _).mono ?_; rintro e w3 ⟨rfl, hb⟩
    have H3 := Lib.hid (bTrans H2.out hb)
    have hs := S2.out.below hb
    clear hb k0 k1 k2 k3 k4 k5
    obtain ⟨k0, k1, k2, k3, k4, k5⟩ := hs
    go_wp2_with fail
    refine (HR.out _).mono ?_; rintro e w4 ⟨rfl, hb⟩
    have H4 := Lib.hid (bTrans H3.out hb)
    clear hb k0 k1 k2 k3 k4 k5
    go_wp2_with fail
    go_ret
    exact ⟨ret_bool (by simp), H4.out⟩
end Go.Proofs.Ytkkabhmcmdgpdaa
