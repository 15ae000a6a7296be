/- IsaQ -/
import Derived.Test.YtegoddghfjfibaaGreatDoorZ37
import Derived.Test.YtegoddghfjfibaaGreatDoorZ38
namespace Go.Proofs.YtegoddghfjfibaaGreatDoor.Is
set_option linter.unusedVariables false
set_option maxRecDepth 100000
set_option linter.unusedSimpArgs false
open Go.Joins Go.ChangeShapes Go.WideShapes Go.ChangeAt Go.RowKit

theorem fit_iff (n : Int) : fitB n true = true ↔ 0 ≤ n ∧ n < 32 := by
  unfold fitB
  by_cases h0 : n = 0
  · subst h0; simp
  · rw [if_neg (by simp; omega), if_pos rfl]
    by_cases h : 0 < n
    · rw [decide_eq_true h, if_pos rfl, decide_eq_true_iff]; omega
    · rw [decide_eq_false h, if_neg (by decide)]; simp; omega
theorem fit_iff0 (n : Int) : fitB n false = true ↔ n = 0 := by
  unfold fitB
  by_cases h0 : n = 0
  · subst h0; simp
  · rw [if_neg (by simp; omega), if_neg (by decide)]; simp [h0]
theorem regs_iff (k rd rs1 rs2 : Int) : regsB k rd rs1 rs2 = true ↔ fitB rd (hasZ k).1 = true ∧ fitB rs1 (hasZ k).2.1 = true ∧ fitB rs2 (hasZ k).2.2 = true := by
  unfold regsB
  split
  · rename_i h
    split
    · rename_i h2; exact ⟨fun h3 => ⟨h, h2, h3⟩, fun h3 => h3.2.2⟩
    · rename_i h2; exact ⟨fun h3 => absurd h3 (by decide), fun h3 => absurd h3.2.1 h2⟩
  · rename_i h; exact ⟨fun h3 => absurd h3 (by decide), fun h3 => absurd h3.1 h⟩
set_option maxHeartbeats 1000000 in
theorem right1 (op rd rs1 rs2 n : Int) (s : List UInt8) (c f3 f7 sh : Int) (R A : Bool) (hs : (s == []) = false) (hR : R = (regsB 1 rd rs1 rs2 && A))
    (hM : ∀ w, Calls Tryz.prog 127 #[operV s 1 c f3 f7 sh, .int .i64 n] w fun e w' => e = .returned (.bool A) ∧ Below w.heap.size w w')
    (hO : ∀ w, Calls Tryz.prog 25 #[.int .i64 op] w fun e w' => e = .returned (operV s 1 c f3 f7 sh) ∧ Below w.heap.size w w') (w : World) :
    Calls Tryz.prog 72 #[instV op rd rs1 rs2 n] w fun e w' => e = .returned (.bool R) ∧ Below w.heap.size w w' := by
  have hiff : R = true ↔ ((0 ≤ rd ∧ rd < 32) ∧ (0 ≤ rs1 ∧ rs1 < 32) ∧ (0 ≤ rs2 ∧ rs2 < 32)) ∧ A = true := by
    rw [hR, Bool.and_eq_true, regs_iff, hasZ_1]
    simp only [fit_iff, fit_iff0]
  have HI := Lib.hid hiff
  have hB0 := fun w => Box5.new w (.int .i64 op) (.int .i64 rd) (.int .i64 rs1) (.int .i64 rs2) (.int .i64 n) 61
  unfold operV at hM hO
  unfold instV
  have LM := Lib.hid hM
  have LO := Lib.hid hO
  have LB := Lib.hid hB0
  clear hM hO hB0 hR hiff
  go_enter Tryz.func72, Tryz.ntmps72
  go_wp2_with fail
  refine (LO.out _).mono ?_; rintro e w1 ⟨rfl, q1⟩
  have B1 := Lib.hid ((LB.out w).on q1); have Q1 := Lib.hid (bTrans (bAlloc (Below.refl _ _) _) q1); clear q1
  obtain ⟨-, c0, c1, c2, c3, c4⟩ := (B1.out.on (bAlloc (Below.refl _ _) (.cells #[.string ⟨s.toArray⟩, .int .i64 1, .int .i64 c, .int .i64 f3, .int .i64 f7, .int .i64 sh] 57)))
  go_wp2_with (go_at_call 73; refine (registers_any _ _).mono ?_; rintro e w' ⟨rfl, rfl⟩; rw [show rgZ 1 = 7 by decide])
  refine (LM.out _).mono ?_; rintro e w2 ⟨rfl, q2⟩
  have B2 := Lib.hid (B1.out.on (bTrans (bAlloc (Below.refl _ _) _) q2)); have Q2 := Lib.hid (bTrans (bAlloc Q1.out _) q2); clear q2 B1 Q1 c0 c1 c2 c3 c4
  obtain ⟨-, c0, c1, c2, c3, c4⟩ := B2.out
  cases A
  · have hz : R = false := by rw [Bool.eq_false_iff]; intro h; have := (HI.out.mp h).2; exact absurd this (by decide)
    subst hz
    go_wp2_with fail
    go_ret
    exact ⟨rfl, Q2.out⟩
  go_wp2_with fail
  all_goals (refine bodyPost_ret (v := .bool R) ?_ rfl ⟨rfl, Q2.out⟩)
  all_goals first
    | (simp [results, Tryz.results72, go_sem]; rw [Bool.eq_iff_iff, HI.out]; simp; omega)
    | (simp [results, Tryz.results72, go_sem]; rw [eq_comm, Bool.eq_false_iff]; intro h; have := HI.out.mp h; omega)
set_option maxHeartbeats 1000000 in
theorem right2 (op rd rs1 rs2 n : Int) (s : List UInt8) (c f3 f7 sh : Int) (R A : Bool) (hs : (s == []) = false) (hR : R = (regsB 2 rd rs1 rs2 && A))
    (hM : ∀ w, Calls Tryz.prog 127 #[operV s 2 c f3 f7 sh, .int .i64 n] w fun e w' => e = .returned (.bool A) ∧ Below w.heap.size w w')
    (hO : ∀ w, Calls Tryz.prog 25 #[.int .i64 op] w fun e w' => e = .returned (operV s 2 c f3 f7 sh) ∧ Below w.heap.size w w') (w : World) :
    Calls Tryz.prog 72 #[instV op rd rs1 rs2 n] w fun e w' => e = .returned (.bool R) ∧ Below w.heap.size w w' := by
  have hiff : R = true ↔ ((0 ≤ rd ∧ rd < 32) ∧ (0 ≤ rs1 ∧ rs1 < 32) ∧ rs2 = 0) ∧ A = true := by
    rw [hR, Bool.and_eq_true, regs_iff, hasZ_2]
    simp only [fit_iff, fit_iff0]
  have HI := Lib.hid hiff
  have hB0 := fun w => Box5.new w (.int .i64 op) (.int .i64 rd) (.int .i64 rs1) (.int .i64 rs2) (.int .i64 n) 61
  unfold operV at hM hO
  unfold instV
  have LM := Lib.hid hM
  have LO := Lib.hid hO
  have LB := Lib.hid hB0
  clear hM hO hB0 hR hiff
  go_enter Tryz.func72, Tryz.ntmps72
  go_wp2_with fail
  refine (LO.out _).mono ?_; rintro e w1 ⟨rfl, q1⟩
  have B1 := Lib.hid ((LB.out w).on q1); have Q1 := Lib.hid (bTrans (bAlloc (Below.refl _ _) _) q1); clear q1
  obtain ⟨-, c0, c1, c2, c3, c4⟩ := (B1.out.on (bAlloc (Below.refl _ _) (.cells #[.string ⟨s.toArray⟩, .int .i64 2, .int .i64 c, .int .i64 f3, .int .i64 f7, .int .i64 sh] 57)))
  go_wp2_with (go_at_call 73; refine (registers_any _ _).mono ?_; rintro e w' ⟨rfl, rfl⟩; rw [show rgZ 2 = 3 by decide])
  refine (LM.out _).mono ?_; rintro e w2 ⟨rfl, q2⟩
  have B2 := Lib.hid (B1.out.on (bTrans (bAlloc (Below.refl _ _) _) q2)); have Q2 := Lib.hid (bTrans (bAlloc Q1.out _) q2); clear q2 B1 Q1 c0 c1 c2 c3 c4
  obtain ⟨-, c0, c1, c2, c3, c4⟩ := B2.out
  cases A
  · have hz : R = false := by rw [Bool.eq_false_iff]; intro h; have := (HI.out.mp h).2; exact absurd this (by decide)
    subst hz
    go_wp2_with fail
    go_ret
    exact ⟨rfl, Q2.out⟩
  go_wp2_with fail
  all_goals (refine bodyPost_ret (v := .bool R) ?_ rfl ⟨rfl, Q2.out⟩)
  all_goals first
    | (simp [results, Tryz.results72, go_sem]; rw [Bool.eq_iff_iff, HI.out]; simp; omega)
    | (simp [results, Tryz.results72, go_sem]; rw [eq_comm, Bool.eq_false_iff]; intro h; have := HI.out.mp h; omega)
set_option maxHeartbeats 1000000 in
theorem right3 (op rd rs1 rs2 n : Int) (s : List UInt8) (c f3 f7 sh : Int) (R A : Bool) (hs : (s == []) = false) (hR : R = (regsB 3 rd rs1 rs2 && A))
    (hM : ∀ w, Calls Tryz.prog 127 #[operV s 3 c f3 f7 sh, .int .i64 n] w fun e w' => e = .returned (.bool A) ∧ Below w.heap.size w w')
    (hO : ∀ w, Calls Tryz.prog 25 #[.int .i64 op] w fun e w' => e = .returned (operV s 3 c f3 f7 sh) ∧ Below w.heap.size w w') (w : World) :
    Calls Tryz.prog 72 #[instV op rd rs1 rs2 n] w fun e w' => e = .returned (.bool R) ∧ Below w.heap.size w w' := by
  have hiff : R = true ↔ ((0 ≤ rd ∧ rd < 32) ∧ (0 ≤ rs1 ∧ rs1 < 32) ∧ rs2 = 0) ∧ A = true := by
    rw [hR, Bool.and_eq_true, regs_iff, hasZ_3]
    simp only [fit_iff, fit_iff0]
  have HI := Lib.hid hiff
  have hB0 := fun w => Box5.new w (.int .i64 op) (.int .i64 rd) (.int .i64 rs1) (.int .i64 rs2) (.int .i64 n) 61
  unfold operV at hM hO
  unfold instV
  have LM := Lib.hid hM
  have LO := Lib.hid hO
  have LB := Lib.hid hB0
  clear hM hO hB0 hR hiff
  go_enter Tryz.func72, Tryz.ntmps72
  go_wp2_with fail
  refine (LO.out _).mono ?_; rintro e w1 ⟨rfl, q1⟩
  have B1 := Lib.hid ((LB.out w).on q1); have Q1 := Lib.hid (bTrans (bAlloc (Below.refl _ _) _) q1); clear q1
  obtain ⟨-, c0, c1, c2, c3, c4⟩ := (B1.out.on (bAlloc (Below.refl _ _) (.cells #[.string ⟨s.toArray⟩, .int .i64 3, .int .i64 c, .int .i64 f3, .int .i64 f7, .int .i64 sh] 57)))
  go_wp2_with (go_at_call 73; refine (registers_any _ _).mono ?_; rintro e w' ⟨rfl, rfl⟩; rw [show rgZ 3 = 3 by decide])
  refine (LM.out _).mono ?_; rintro e w2 ⟨rfl, q2⟩
  have B2 := Lib.hid (B1.out.on (bTrans (bAlloc (Below.refl _ _) _) q2)); have Q2 := Lib.hid (bTrans (bAlloc Q1.out _) q2); clear q2 B1 Q1 c0 c1 c2 c3 c4
  obtain ⟨-, c0, c1, c2, c3, c4⟩ := B2.out
  cases A
  · have hz : R = false := by rw [Bool.eq_false_iff]; intro h; have := (HI.out.mp h).2; exact absurd this (by decide)
    subst hz
    go_wp2_with fail
    go_ret
    exact ⟨rfl, Q2.out⟩
  go_wp2_with fail
  all_goals (refine bodyPost_ret (v := .bool R) ?_ rfl ⟨rfl, Q2.out⟩)
  all_goals first
    | (simp [results, Tryz.results72, go_sem]; rw [Bool.eq_iff_iff, HI.out]; simp; omega)
    | (simp [results, Tryz.results72, go_sem]; rw [eq_comm, Bool.eq_false_iff]; intro h; have := HI.out.mp h; omega)
set_option maxHeartbeats 1000000 in
theorem right8 (op rd rs1 rs2 n : Int) (s : List UInt8) (c f3 f7 sh : Int) (R A : Bool) (hs : (s == []) = false) (hR : R = (regsB 8 rd rs1 rs2 && A))
    (hM : ∀ w, Calls Tryz.prog 127 #[operV s 8 c f3 f7 sh, .int .i64 n] w fun e w' => e = .returned (.bool A) ∧ Below w.heap.size w w')
    (hO : ∀ w, Calls Tryz.prog 25 #[.int .i64 op] w fun e w' => e = .returned (operV s 8 c f3 f7 sh) ∧ Below w.heap.size w w') (w : World) :
    Calls Tryz.prog 72 #[instV op rd rs1 rs2 n] w fun e w' => e = .returned (.bool R) ∧ Below w.heap.size w w' := by
  have hiff : R = true ↔ ((0 ≤ rd ∧ rd < 32) ∧ (0 ≤ rs1 ∧ rs1 < 32) ∧ rs2 = 0) ∧ A = true := by
    rw [hR, Bool.and_eq_true, regs_iff, hasZ_8]
    simp only [fit_iff, fit_iff0]
  have HI := Lib.hid hiff
  have hB0 := fun w => Box5.new w (.int .i64 op) (.int .i64 rd) (.int .i64 rs1) (.int .i64 rs2) (.int .i64 n) 61
  unfold operV at hM hO
  unfold instV
  have LM := Lib.hid hM
  have LO := Lib.hid hO
  have LB := Lib.hid hB0
  clear hM hO hB0 hR hiff
  go_enter Tryz.func72, Tryz.ntmps72
  go_wp2_with fail
  refine (LO.out _).mono ?_; rintro e w1 ⟨rfl, q1⟩
  have B1 := Lib.hid ((LB.out w).on q1); have Q1 := Lib.hid (bTrans (bAlloc (Below.refl _ _) _) q1); clear q1
  obtain ⟨-, c0, c1, c2, c3, c4⟩ := (B1.out.on (bAlloc (Below.refl _ _) (.cells #[.string ⟨s.toArray⟩, .int .i64 8, .int .i64 c, .int .i64 f3, .int .i64 f7, .int .i64 sh] 57)))
  go_wp2_with (go_at_call 73; refine (registers_any _ _).mono ?_; rintro e w' ⟨rfl, rfl⟩; rw [show rgZ 8 = 3 by decide])
  refine (LM.out _).mono ?_; rintro e w2 ⟨rfl, q2⟩
  have B2 := Lib.hid (B1.out.on (bTrans (bAlloc (Below.refl _ _) _) q2)); have Q2 := Lib.hid (bTrans (bAlloc Q1.out _) q2); clear q2 B1 Q1 c0 c1 c2 c3 c4
  obtain ⟨-, c0, c1, c2, c3, c4⟩ := B2.out
  cases A
  · have hz : R = false := by rw [Bool.eq_false_iff]; intro h; have := (HI.out.mp h).2; exact absurd this (by decide)
    subst hz
    go_wp2_with fail
    go_ret
    exact ⟨rfl, Q2.out⟩
  go_wp2_with fail
  all_goals (refine bodyPost_ret (v := .bool R) ?_ rfl ⟨rfl, Q2.out⟩)
  all_goals first
    | (simp [results, Tryz.results72, go_sem]; rw [Bool.eq_iff_iff, HI.out]; simp; omega)
    | (simp [results, Tryz.results72, go_sem]; rw [eq_comm, Bool.eq_false_iff]; intro h; have := HI.out.mp h; omega)
set_option maxHeartbeats 1000000 in
theorem right4 (op rd rs1 rs2 n : Int) (s : List UInt8) (c f3 f7 sh : Int) (R A : Bool) (hs : (s == []) = false) (hR : R = (regsB 4 rd rs1 rs2 && A))
    (hM : ∀ w, Calls Tryz.prog 127 #[operV s 4 c f3 f7 sh, .int .i64 n] w fun e w' => e = .returned (.bool A) ∧ Below w.heap.size w w')
    (hO : ∀ w, Calls Tryz.prog 25 #[.int .i64 op] w fun e w' => e = .returned (operV s 4 c f3 f7 sh) ∧ Below w.heap.size w w') (w : World) :
    Calls Tryz.prog 72 #[instV op rd rs1 rs2 n] w fun e w' => e = .returned (.bool R) ∧ Below w.heap.size w w' := by
  have hiff : R = true ↔ (rd = 0 ∧ (0 ≤ rs1 ∧ rs1 < 32) ∧ (0 ≤ rs2 ∧ rs2 < 32)) ∧ A = true := by
    rw [hR, Bool.and_eq_true, regs_iff, hasZ_4]
    simp only [fit_iff, fit_iff0]
  have HI := Lib.hid hiff
  have hB0 := fun w => Box5.new w (.int .i64 op) (.int .i64 rd) (.int .i64 rs1) (.int .i64 rs2) (.int .i64 n) 61
  unfold operV at hM hO
  unfold instV
  have LM := Lib.hid hM
  have LO := Lib.hid hO
  have LB := Lib.hid hB0
  clear hM hO hB0 hR hiff
  go_enter Tryz.func72, Tryz.ntmps72
  go_wp2_with fail
  refine (LO.out _).mono ?_; rintro e w1 ⟨rfl, q1⟩
  have B1 := Lib.hid ((LB.out w).on q1); have Q1 := Lib.hid (bTrans (bAlloc (Below.refl _ _) _) q1); clear q1
  obtain ⟨-, c0, c1, c2, c3, c4⟩ := (B1.out.on (bAlloc (Below.refl _ _) (.cells #[.string ⟨s.toArray⟩, .int .i64 4, .int .i64 c, .int .i64 f3, .int .i64 f7, .int .i64 sh] 57)))
  go_wp2_with (go_at_call 73; refine (registers_any _ _).mono ?_; rintro e w' ⟨rfl, rfl⟩; rw [show rgZ 4 = 6 by decide])
  refine (LM.out _).mono ?_; rintro e w2 ⟨rfl, q2⟩
  have B2 := Lib.hid (B1.out.on (bTrans (bAlloc (Below.refl _ _) _) q2)); have Q2 := Lib.hid (bTrans (bAlloc Q1.out _) q2); clear q2 B1 Q1 c0 c1 c2 c3 c4
  obtain ⟨-, c0, c1, c2, c3, c4⟩ := B2.out
  cases A
  · have hz : R = false := by rw [Bool.eq_false_iff]; intro h; have := (HI.out.mp h).2; exact absurd this (by decide)
    subst hz
    go_wp2_with fail
    go_ret
    exact ⟨rfl, Q2.out⟩
  go_wp2_with fail
  all_goals (refine bodyPost_ret (v := .bool R) ?_ rfl ⟨rfl, Q2.out⟩)
  all_goals first
    | (simp [results, Tryz.results72, go_sem]; rw [Bool.eq_iff_iff, HI.out]; simp; omega)
    | (simp [results, Tryz.results72, go_sem]; rw [eq_comm, Bool.eq_false_iff]; intro h; have := HI.out.mp h; omega)
set_option maxHeartbeats 1000000 in
theorem right5 (op rd rs1 rs2 n : Int) (s : List UInt8) (c f3 f7 sh : Int) (R A : Bool) (hs : (s == []) = false) (hR : R = (regsB 5 rd rs1 rs2 && A))
    (hM : ∀ w, Calls Tryz.prog 127 #[operV s 5 c f3 f7 sh, .int .i64 n] w fun e w' => e = .returned (.bool A) ∧ Below w.heap.size w w')
    (hO : ∀ w, Calls Tryz.prog 25 #[.int .i64 op] w fun e w' => e = .returned (operV s 5 c f3 f7 sh) ∧ Below w.heap.size w w') (w : World) :
    Calls Tryz.prog 72 #[instV op rd rs1 rs2 n] w fun e w' => e = .returned (.bool R) ∧ Below w.heap.size w w' := by
  have hiff : R = true ↔ (rd = 0 ∧ (0 ≤ rs1 ∧ rs1 < 32) ∧ (0 ≤ rs2 ∧ rs2 < 32)) ∧ A = true := by
    rw [hR, Bool.and_eq_true, regs_iff, hasZ_5]
    simp only [fit_iff, fit_iff0]
  have HI := Lib.hid hiff
  have hB0 := fun w => Box5.new w (.int .i64 op) (.int .i64 rd) (.int .i64 rs1) (.int .i64 rs2) (.int .i64 n) 61
  unfold operV at hM hO
  unfold instV
  have LM := Lib.hid hM
  have LO := Lib.hid hO
  have LB := Lib.hid hB0
  clear hM hO hB0 hR hiff
  go_enter Tryz.func72, Tryz.ntmps72
  go_wp2_with fail
  refine (LO.out _).mono ?_; rintro e w1 ⟨rfl, q1⟩
  have B1 := Lib.hid ((LB.out w).on q1); have Q1 := Lib.hid (bTrans (bAlloc (Below.refl _ _) _) q1); clear q1
  obtain ⟨-, c0, c1, c2, c3, c4⟩ := (B1.out.on (bAlloc (Below.refl _ _) (.cells #[.string ⟨s.toArray⟩, .int .i64 5, .int .i64 c, .int .i64 f3, .int .i64 f7, .int .i64 sh] 57)))
  go_wp2_with (go_at_call 73; refine (registers_any _ _).mono ?_; rintro e w' ⟨rfl, rfl⟩; rw [show rgZ 5 = 6 by decide])
  refine (LM.out _).mono ?_; rintro e w2 ⟨rfl, q2⟩
  have B2 := Lib.hid (B1.out.on (bTrans (bAlloc (Below.refl _ _) _) q2)); have Q2 := Lib.hid (bTrans (bAlloc Q1.out _) q2); clear q2 B1 Q1 c0 c1 c2 c3 c4
  obtain ⟨-, c0, c1, c2, c3, c4⟩ := B2.out
  cases A
  · have hz : R = false := by rw [Bool.eq_false_iff]; intro h; have := (HI.out.mp h).2; exact absurd this (by decide)
    subst hz
    go_wp2_with fail
    go_ret
    exact ⟨rfl, Q2.out⟩
  go_wp2_with fail
  all_goals (refine bodyPost_ret (v := .bool R) ?_ rfl ⟨rfl, Q2.out⟩)
  all_goals first
    | (simp [results, Tryz.results72, go_sem]; rw [Bool.eq_iff_iff, HI.out]; simp; omega)
    | (simp [results, Tryz.results72, go_sem]; rw [eq_comm, Bool.eq_false_iff]; intro h; have := HI.out.mp h; omega)
set_option maxHeartbeats 1000000 in
theorem right10 (op rd rs1 rs2 n : Int) (s : List UInt8) (c f3 f7 sh : Int) (R A : Bool) (hs : (s == []) = false) (hR : R = (regsB 10 rd rs1 rs2 && A))
    (hM : ∀ w, Calls Tryz.prog 127 #[operV s 10 c f3 f7 sh, .int .i64 n] w fun e w' => e = .returned (.bool A) ∧ Below w.heap.size w w')
    (hO : ∀ w, Calls Tryz.prog 25 #[.int .i64 op] w fun e w' => e = .returned (operV s 10 c f3 f7 sh) ∧ Below w.heap.size w w') (w : World) :
    Calls Tryz.prog 72 #[instV op rd rs1 rs2 n] w fun e w' => e = .returned (.bool R) ∧ Below w.heap.size w w' := by
  have hiff : R = true ↔ (rd = 0 ∧ (0 ≤ rs1 ∧ rs1 < 32) ∧ (0 ≤ rs2 ∧ rs2 < 32)) ∧ A = true := by
    rw [hR, Bool.and_eq_true, regs_iff, hasZ_10]
    simp only [fit_iff, fit_iff0]
  have HI := Lib.hid hiff
  have hB0 := fun w => Box5.new w (.int .i64 op) (.int .i64 rd) (.int .i64 rs1) (.int .i64 rs2) (.int .i64 n) 61
  unfold operV at hM hO
  unfold instV
  have LM := Lib.hid hM
  have LO := Lib.hid hO
  have LB := Lib.hid hB0
  clear hM hO hB0 hR hiff
  go_enter Tryz.func72, Tryz.ntmps72
  go_wp2_with fail
  refine (LO.out _).mono ?_; rintro e w1 ⟨rfl, q1⟩
  have B1 := Lib.hid ((LB.out w).on q1); have Q1 := Lib.hid (bTrans (bAlloc (Below.refl _ _) _) q1); clear q1
  obtain ⟨-, c0, c1, c2, c3, c4⟩ := (B1.out.on (bAlloc (Below.refl _ _) (.cells #[.string ⟨s.toArray⟩, .int .i64 10, .int .i64 c, .int .i64 f3, .int .i64 f7, .int .i64 sh] 57)))
  go_wp2_with (go_at_call 73; refine (registers_any _ _).mono ?_; rintro e w' ⟨rfl, rfl⟩; rw [show rgZ 10 = 6 by decide])
  refine (LM.out _).mono ?_; rintro e w2 ⟨rfl, q2⟩
  have B2 := Lib.hid (B1.out.on (bTrans (bAlloc (Below.refl _ _) _) q2)); have Q2 := Lib.hid (bTrans (bAlloc Q1.out _) q2); clear q2 B1 Q1 c0 c1 c2 c3 c4
  obtain ⟨-, c0, c1, c2, c3, c4⟩ := B2.out
  cases A
  · have hz : R = false := by rw [Bool.eq_false_iff]; intro h; have := (HI.out.mp h).2; exact absurd this (by decide)
    subst hz
    go_wp2_with fail
    go_ret
    exact ⟨rfl, Q2.out⟩
  go_wp2_with fail
  all_goals (refine bodyPost_ret (v := .bool R) ?_ rfl ⟨rfl, Q2.out⟩)
  all_goals first
    | (simp [results, Tryz.results72, go_sem]; rw [Bool.eq_iff_iff, HI.out]; simp; omega)
    | (simp [results, Tryz.results72, go_sem]; rw [eq_comm, Bool.eq_false_iff]; intro h; have := HI.out.mp h; omega)
set_option maxHeartbeats 1000000 in
theorem right6 (op rd rs1 rs2 n : Int) (s : List UInt8) (c f3 f7 sh : Int) (R A : Bool) (hs : (s == []) = false) (hR : R = (regsB 6 rd rs1 rs2 && A))
    (hM : ∀ w, Calls Tryz.prog 127 #[operV s 6 c f3 f7 sh, .int .i64 n] w fun e w' => e = .returned (.bool A) ∧ Below w.heap.size w w')
    (hO : ∀ w, Calls Tryz.prog 25 #[.int .i64 op] w fun e w' => e = .returned (operV s 6 c f3 f7 sh) ∧ Below w.heap.size w w') (w : World) :
    Calls Tryz.prog 72 #[instV op rd rs1 rs2 n] w fun e w' => e = .returned (.bool R) ∧ Below w.heap.size w w' := by
  have hiff : R = true ↔ ((0 ≤ rd ∧ rd < 32) ∧ rs1 = 0 ∧ rs2 = 0) ∧ A = true := by
    rw [hR, Bool.and_eq_true, regs_iff, hasZ_6]
    simp only [fit_iff, fit_iff0]
  have HI := Lib.hid hiff
  have hB0 := fun w => Box5.new w (.int .i64 op) (.int .i64 rd) (.int .i64 rs1) (.int .i64 rs2) (.int .i64 n) 61
  unfold operV at hM hO
  unfold instV
  have LM := Lib.hid hM
  have LO := Lib.hid hO
  have LB := Lib.hid hB0
  clear hM hO hB0 hR hiff
  go_enter Tryz.func72, Tryz.ntmps72
  go_wp2_with fail
  refine (LO.out _).mono ?_; rintro e w1 ⟨rfl, q1⟩
  have B1 := Lib.hid ((LB.out w).on q1); have Q1 := Lib.hid (bTrans (bAlloc (Below.refl _ _) _) q1); clear q1
  obtain ⟨-, c0, c1, c2, c3, c4⟩ := (B1.out.on (bAlloc (Below.refl _ _) (.cells #[.string ⟨s.toArray⟩, .int .i64 6, .int .i64 c, .int .i64 f3, .int .i64 f7, .int .i64 sh] 57)))
  go_wp2_with (go_at_call 73; refine (registers_any _ _).mono ?_; rintro e w' ⟨rfl, rfl⟩; rw [show rgZ 6 = 1 by decide])
  refine (LM.out _).mono ?_; rintro e w2 ⟨rfl, q2⟩
  have B2 := Lib.hid (B1.out.on (bTrans (bAlloc (Below.refl _ _) _) q2)); have Q2 := Lib.hid (bTrans (bAlloc Q1.out _) q2); clear q2 B1 Q1 c0 c1 c2 c3 c4
  obtain ⟨-, c0, c1, c2, c3, c4⟩ := B2.out
  cases A
  · have hz : R = false := by rw [Bool.eq_false_iff]; intro h; have := (HI.out.mp h).2; exact absurd this (by decide)
    subst hz
    go_wp2_with fail
    go_ret
    exact ⟨rfl, Q2.out⟩
  go_wp2_with fail
  all_goals (refine bodyPost_ret (v := .bool R) ?_ rfl ⟨rfl, Q2.out⟩)
  all_goals first
    | (simp [results, Tryz.results72, go_sem]; rw [Bool.eq_iff_iff, HI.out]; simp; omega)
    | (simp [results, Tryz.results72, go_sem]; rw [eq_comm, Bool.eq_false_iff]; intro h; have := HI.out.mp h; omega)
set_option maxHeartbeats 1000000 in
theorem right7 (op rd rs1 rs2 n : Int) (s : List UInt8) (c f3 f7 sh : Int) (R A : Bool) (hs : (s == []) = false) (hR : R = (regsB 7 rd rs1 rs2 && A))
    (hM : ∀ w, Calls Tryz.prog 127 #[operV s 7 c f3 f7 sh, .int .i64 n] w fun e w' => e = .returned (.bool A) ∧ Below w.heap.size w w')
    (hO : ∀ w, Calls Tryz.prog 25 #[.int .i64 op] w fun e w' => e = .returned (operV s 7 c f3 f7 sh) ∧ Below w.heap.size w w') (w : World) :
    Calls Tryz.prog 72 #[instV op rd rs1 rs2 n] w fun e w' => e = .returned (.bool R) ∧ Below w.heap.size w w' := by
  have hiff : R = true ↔ ((0 ≤ rd ∧ rd < 32) ∧ rs1 = 0 ∧ rs2 = 0) ∧ A = true := by
    rw [hR, Bool.and_eq_true, regs_iff, hasZ_7]
    simp only [fit_iff, fit_iff0]
  have HI := Lib.hid hiff
  have hB0 := fun w => Box5.new w (.int .i64 op) (.int .i64 rd) (.int .i64 rs1) (.int .i64 rs2) (.int .i64 n) 61
  unfold operV at hM hO
  unfold instV
  have LM := Lib.hid hM
  have LO := Lib.hid hO
  have LB := Lib.hid hB0
  clear hM hO hB0 hR hiff
  go_enter Tryz.func72, Tryz.ntmps72
  go_wp2_with fail
  refine (LO.out _).mono ?_; rintro e w1 ⟨rfl, q1⟩
  have B1 := Lib.hid ((LB.out w).on q1); have Q1 := Lib.hid (bTrans (bAlloc (Below.refl _ _) _) q1); clear q1
  obtain ⟨-, c0, c1, c2, c3, c4⟩ := (B1.out.on (bAlloc (Below.refl _ _) (.cells #[.string ⟨s.toArray⟩, .int .i64 7, .int .i64 c, .int .i64 f3, .int .i64 f7, .int .i64 sh] 57)))
  go_wp2_with (go_at_call 73; refine (registers_any _ _).mono ?_; rintro e w' ⟨rfl, rfl⟩; rw [show rgZ 7 = 1 by decide])
  refine (LM.out _).mono ?_; rintro e w2 ⟨rfl, q2⟩
  have B2 := Lib.hid (B1.out.on (bTrans (bAlloc (Below.refl _ _) _) q2)); have Q2 := Lib.hid (bTrans (bAlloc Q1.out _) q2); clear q2 B1 Q1 c0 c1 c2 c3 c4
  obtain ⟨-, c0, c1, c2, c3, c4⟩ := B2.out
  cases A
  · have hz : R = false := by rw [Bool.eq_false_iff]; intro h; have := (HI.out.mp h).2; exact absurd this (by decide)
    subst hz
    go_wp2_with fail
    go_ret
    exact ⟨rfl, Q2.out⟩
  go_wp2_with fail
  all_goals (refine bodyPost_ret (v := .bool R) ?_ rfl ⟨rfl, Q2.out⟩)
  all_goals first
    | (simp [results, Tryz.results72, go_sem]; rw [Bool.eq_iff_iff, HI.out]; simp; omega)
    | (simp [results, Tryz.results72, go_sem]; rw [eq_comm, Bool.eq_false_iff]; intro h; have := HI.out.mp h; omega)
set_option maxHeartbeats 1000000 in
theorem right9 (op rd rs1 rs2 n : Int) (s : List UInt8) (c f3 f7 sh : Int) (R A : Bool) (hs : (s == []) = false) (hR : R = (regsB 9 rd rs1 rs2 && A))
    (hM : ∀ w, Calls Tryz.prog 127 #[operV s 9 c f3 f7 sh, .int .i64 n] w fun e w' => e = .returned (.bool A) ∧ Below w.heap.size w w')
    (hO : ∀ w, Calls Tryz.prog 25 #[.int .i64 op] w fun e w' => e = .returned (operV s 9 c f3 f7 sh) ∧ Below w.heap.size w w') (w : World) :
    Calls Tryz.prog 72 #[instV op rd rs1 rs2 n] w fun e w' => e = .returned (.bool R) ∧ Below w.heap.size w w' := by
  have hiff : R = true ↔ (rd = 0 ∧ rs1 = 0 ∧ rs2 = 0) ∧ A = true := by
    rw [hR, Bool.and_eq_true, regs_iff, hasZ_9]
    simp only [fit_iff, fit_iff0]
  have HI := Lib.hid hiff
  have hB0 := fun w => Box5.new w (.int .i64 op) (.int .i64 rd) (.int .i64 rs1) (.int .i64 rs2) (.int .i64 n) 61
  unfold operV at hM hO
  unfold instV
  have LM := Lib.hid hM
  have LO := Lib.hid hO
  have LB := Lib.hid hB0
  clear hM hO hB0 hR hiff
  go_enter Tryz.func72, Tryz.ntmps72
  go_wp2_with fail
  refine (LO.out _).mono ?_; rintro e w1 ⟨rfl, q1⟩
  have B1 := Lib.hid ((LB.out w).on q1); have Q1 := Lib.hid (bTrans (bAlloc (Below.refl _ _) _) q1); clear q1
  obtain ⟨-, c0, c1, c2, c3, c4⟩ := (B1.out.on (bAlloc (Below.refl _ _) (.cells #[.string ⟨s.toArray⟩, .int .i64 9, .int .i64 c, .int .i64 f3, .int .i64 f7, .int .i64 sh] 57)))
  go_wp2_with (go_at_call 73; refine (registers_any _ _).mono ?_; rintro e w' ⟨rfl, rfl⟩; rw [show rgZ 9 = 0 by decide])
  refine (LM.out _).mono ?_; rintro e w2 ⟨rfl, q2⟩
  have B2 := Lib.hid (B1.out.on (bTrans (bAlloc (Below.refl _ _) _) q2)); have Q2 := Lib.hid (bTrans (bAlloc Q1.out _) q2); clear q2 B1 Q1 c0 c1 c2 c3 c4
  obtain ⟨-, c0, c1, c2, c3, c4⟩ := B2.out
  cases A
  · have hz : R = false := by rw [Bool.eq_false_iff]; intro h; have := (HI.out.mp h).2; exact absurd this (by decide)
    subst hz
    go_wp2_with fail
    go_ret
    exact ⟨rfl, Q2.out⟩
  go_wp2_with fail
  all_goals (refine bodyPost_ret (v := .bool R) ?_ rfl ⟨rfl, Q2.out⟩)
  all_goals first
    | (simp [results, Tryz.results72, go_sem]; rw [Bool.eq_iff_iff, HI.out]; simp; omega)
    | (simp [results, Tryz.results72, go_sem]; rw [eq_comm, Bool.eq_false_iff]; intro h; have := HI.out.mp h; omega)
end Go.Proofs.YtegoddghfjfibaaGreatDoor.Is

