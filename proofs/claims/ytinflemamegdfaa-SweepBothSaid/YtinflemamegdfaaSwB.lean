/- The document's Touches; capabilities that are right; the examples; SweepTouches' walk. -/
import Derived.Test.YtinflemamegdfaaSwA
namespace Go.Proofs.Ytinflemamegdfaa
set_option linter.unusedVariables false
set_option linter.unusedSimpArgs false
open Go.Joins Go.ChangeShapes Go.WideShapes Go.ChangeAt Go.RowKit

theorem rtouches_any (cb ct ca cp cy : Int) (cg : Bool) (f n ty : Int) (w : World) (a0 : 0 ≤ cb) (a1 : cb < 18446744073709551616) (b0 : 0 ≤ ct) (b1 : ct < 18446744073709551616) (c0 : 0 ≤ f) (c1 : f < 18446744073709551616) :
    Calls Try.prog 10 #[.agg #[.int .u64 cb, .int .u64 ct, .int .u64 ca, .int .i64 cp, .int .i64 cy, .bool cg], .int .u64 f, .int .u64 n, .int .i64 ty] w fun e w' => e = .returned (.bool (refB cb ct cy cg f n ty)) ∧ Below w.heap.size w w' := by
  cases cg
  · go_enter Try.func10, Try.ntmps10
    go_wp2_with fail
    go_ret
    exact ⟨rfl, bAlloc (Below.refl _ _) _⟩
  · by_cases hty : 0 ≤ ty ∧ cy = ty
    · obtain ⟨h1, rfl⟩ := hty
      have e : refB cb ct cy true f n cy = true := by unfold refB; simp [h1]
      have E := Lib.hid e
      clear e
      go_enter Try.func10, Try.ntmps10
      go_wp2_with fail
      go_ret
      exact ⟨ret_bool E.out.symm, bAlloc (Below.refl _ _) _⟩
    · by_cases hle : ct ≤ cb
      · have e : refB cb ct cy true f n ty = amongB cb f n := by unfold refB; simp [hty, hle]
        have E := Lib.hid e
        have HA := Lib.hid (fun w => among_any cb f n w a0 a1 c0)
        have HTY := Lib.hid hty
        have d : decide (ct ≤ cb) = true := decide_eq_true hle
        clear e hty
        generalize amongB cb f n = r at *
        go_enter Try.func10, Try.ntmps10
        go_wp2_with (go_at_call 26; (with_reducible refine (HA.out _).mono ?_); rintro e w' ⟨rfl, rfl⟩)
        all_goals first
          | (exfalso; have hh := HTY.out; simp_all; done)
          | (go_ret; exact ⟨ret_bool E.out.symm, bAlloc (Below.refl _ _) _⟩)
      · have e : refB cb ct cy true f n ty = (amongB cb f n || (decide (0 < n) && amongB f cb (ct - cb))) := by unfold refB; simp [hty, hle]
        have E := Lib.hid e
        have HA := Lib.hid (fun w => among_any cb f n w a0 a1 c0)
        have HA2 := Lib.hid (fun w => among_any f cb (ct - cb) w c0 c1 a0)
        have HTY := Lib.hid hty
        have d : decide (ct ≤ cb) = false := decide_eq_false hle
        have hs : IntKind.u64.wrap (ct - cb) = ct - cb := by rw [IntKind.wrap_u64]; omega
        clear e hty
        generalize amongB cb f n = r at *
        generalize amongB f cb (ct - cb) = r2 at *
        go_enter Try.func10, Try.ntmps10
        go_wp2_with (first | (go_at_call 26; (with_reducible refine (HA.out _).mono ?_); rintro e w' ⟨rfl, rfl⟩) | (go_at_call 26; (with_reducible refine (HA2.out _).mono ?_); rintro e w' ⟨rfl, rfl⟩))
        all_goals first
          | (exfalso; have hh := HTY.out; simp_all; done)
          | (have e2 := E.out
             go_ret
             refine ⟨ret_bool ?_, bAlloc (Below.refl _ _) _⟩
             rw [e2]
             simp_all <;> (intro hn; exfalso; omega))
theorem lawof_any (b t y : Int) (w : World) :
    Calls Try.prog 24 #[.int .u64 b, .int .u64 t, .int .i64 y] w fun e w' => e = .returned (.agg #[.int .u64 b, .int .u64 t, .int .u64 b, .int .i64 3, .int .i64 y, .bool true]) ∧ Below w.heap.size w w' := by
  go_enter Try.func24, Try.ntmps24
  go_wp2_with fail
  refine bodyPost_ret (v := .agg #[.int .u64 b, .int .u64 t, .int .u64 b, .int .i64 3, .int .i64 y, .bool true]) ?_ rfl ⟨rfl, ?_⟩
  · simp [results, Try.results24, go_sem]
  · repeat' (first | (with_reducible refine Below.setCell ?_ ?_ _) | exact bAlloc (Below.refl _ _) _ | exact Nat.le_refl _)
theorem ex1 : touchB 0 256 (-1) true 256 256 9 = false := by decide +kernel
theorem ex2 : touchB 0 257 (-1) true 256 256 9 = true := by decide +kernel
theorem ex3 : touchB 511 600 (-1) true 256 256 9 = true := by decide +kernel
theorem ex4 : touchB 512 600 (-1) true 256 256 9 = false := by decide +kernel
theorem ex5 : touchB 300 300 (-1) true 256 256 9 = true := by decide +kernel
theorem ex6 : touchB 0 9 9 true 256 256 9 = true := by decide +kernel
theorem ex7 : touchB 300 400 9 false 256 256 9 = false := by decide +kernel
set_option maxHeartbeats 1000000 in
theorem awake_any (w : World) : Calls Try.prog 7 #[] w fun e w' => e = .returned (.bool true) ∧ Below w.heap.size w w' := by
  go_enter Try.func7, Try.ntmps7
  go_wp2_with fail
  refine (lawof_any _ _ _ _).mono ?_; rintro e w1 ⟨rfl, hb⟩; have H1 := Lib.hid hb; clear hb
  go_wp2_with fail
  refine (touches_any _ _ _ _ _ _ _ _ _ _).mono ?_; rintro e w2 ⟨rfl, hb⟩; rw [ex1]; have H2 := Lib.hid (bTrans H1.out hb); clear hb
  go_wp2_with fail
  refine (lawof_any _ _ _ _).mono ?_; rintro e w3 ⟨rfl, hb⟩; have H3 := Lib.hid (bTrans H2.out hb); clear hb
  go_wp2_with fail
  refine (touches_any _ _ _ _ _ _ _ _ _ _).mono ?_; rintro e w4 ⟨rfl, hb⟩; rw [ex2]; have H4 := Lib.hid (bTrans H3.out hb); clear hb
  go_wp2_with fail
  refine (lawof_any _ _ _ _).mono ?_; rintro e w5 ⟨rfl, hb⟩; have H5 := Lib.hid (bTrans H4.out hb); clear hb
  go_wp2_with fail
  refine (touches_any _ _ _ _ _ _ _ _ _ _).mono ?_; rintro e w6 ⟨rfl, hb⟩; rw [ex3]; have H6 := Lib.hid (bTrans H5.out hb); clear hb
  go_wp2_with fail
  refine (lawof_any _ _ _ _).mono ?_; rintro e w7 ⟨rfl, hb⟩; have H7 := Lib.hid (bTrans H6.out hb); clear hb
  go_wp2_with fail
  refine (touches_any _ _ _ _ _ _ _ _ _ _).mono ?_; rintro e w8 ⟨rfl, hb⟩; rw [ex4]; have H8 := Lib.hid (bTrans H7.out hb); clear hb
  go_wp2_with fail
  refine (lawof_any _ _ _ _).mono ?_; rintro e w9 ⟨rfl, hb⟩; have H9 := Lib.hid (bTrans H8.out hb); clear hb
  go_wp2_with fail
  refine (touches_any _ _ _ _ _ _ _ _ _ _).mono ?_; rintro e w10 ⟨rfl, hb⟩; rw [ex5]; have H10 := Lib.hid (bTrans H9.out hb); clear hb
  go_wp2_with fail
  refine (lawof_any _ _ _ _).mono ?_; rintro e w11 ⟨rfl, hb⟩; have H11 := Lib.hid (bTrans H10.out hb); clear hb
  go_wp2_with fail
  refine (touches_any _ _ _ _ _ _ _ _ _ _).mono ?_; rintro e w12 ⟨rfl, hb⟩; rw [ex6]; have H12 := Lib.hid (bTrans H11.out hb); clear hb
  go_wp2_with fail
  refine (lawof_any _ _ _ _).mono ?_; rintro e w13 ⟨rfl, hb⟩; have H13 := Lib.hid (bTrans H12.out hb); clear hb
  go_wp2_with fail
  refine (touches_any _ _ _ _ _ _ _ _ _ _).mono ?_; rintro e w14 ⟨rfl, hb⟩; rw [ex7]; have H14 := Lib.hid (bTrans (bAlloc H13.out _) hb); clear hb
  go_wp2_with fail
  go_ret
  exact ⟨rfl, H14.out⟩
end Go.Proofs.Ytinflemamegdfaa
