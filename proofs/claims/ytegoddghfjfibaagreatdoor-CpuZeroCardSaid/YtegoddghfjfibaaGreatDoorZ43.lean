/- IsaZ -/
import Derived.Test.YtegoddghfjfibaaGreatDoorZ42
namespace Go.Proofs.YtegoddghfjfibaaGreatDoor.Is
set_option linter.unusedVariables false
set_option maxRecDepth 100000
set_option linter.unusedSimpArgs false
open Go.Joins Go.ChangeShapes Go.WideShapes Go.ChangeAt Go.RowKit

theorem right_out (op rd rs1 rs2 n : Int) (h : ¬ (1 ≤ op ∧ op ≤ 82)) (w : World) :
    Calls Tryz.prog 72 #[instV op rd rs1 rs2 n] w fun e w' => e = .returned (.bool false) ∧ Below w.heap.size w w' := by
  have hO := fun w => of_any op w
  unfold opV at hO
  rw [opN_out op h] at hO
  generalize opR op = p at hO
  have LO := Lib.hid hO
  clear hO h
  unfold instV
  go_enter Tryz.func72, Tryz.ntmps72
  go_wp2_with fail
  refine (LO.out _).mono ?_; rintro e w1 ⟨rfl, q1⟩
  have Q1 := Lib.hid (bTrans (bAlloc (Below.refl _ _) _) q1); clear q1
  go_wp2_with fail
  go_ret
  exact ⟨rfl, bAlloc Q1.out _⟩
theorem renc_no (op rd rs1 rs2 n : Int)
    (hR : ∀ w, Calls Tryz.prog 72 #[instV op rd rs1 rs2 n] w fun e w' => e = .returned (.bool false) ∧ Below w.heap.size w w') (w : World) :
    Calls Tryz.prog 33 #[instV op rd rs1 rs2 n] w fun e w' => e = .returned (.tuple #[.int .u32 0, .int .i64 1]) ∧ Below w.heap.size w w' := by
  unfold instV at *
  have LR := Lib.hid hR
  clear hR
  go_enter Tryz.func33, Tryz.ntmps33
  go_wp2_with fail
  refine (LR.out _).mono ?_; rintro e w1 ⟨rfl, q1⟩
  have Q1 := Lib.hid (bTrans (bAlloc (Below.refl _ _) _) q1); clear q1
  go_wp2_with fail
  exact bodyPost_ret (v := .tuple #[.int .u32 0, .int .i64 1]) (by simp [results, Tryz.results33, go_sem]) rfl ⟨rfl, Q1.out⟩
def REnc (op rd rs1 rs2 n : Int) : Prop := ∀ w : World, Calls Tryz.prog 33 #[instV op rd rs1 rs2 n] w fun e w' => e = .returned (.tuple #[.int .u32 ((encR op rd rs1 rs2 n : Nat) : Int), .int .i64 (encE op rd rs1 rs2 n)]) ∧ Below w.heap.size w w'
theorem all_c1 (op rd rs1 rs2 n : Int) (h1 : 1 ≤ op) (h2 : op ≤ 82) (hb : bareN op < 4294967296) (hk : kindZ (bareN op) = 1) (hs : shiftZ (bareN op) = 0) (g0 : bareN op / 128 % 32 = 0) (g1 : bareN op / 32768 % 32 = 0) (g2 : bareN op / 1048576 % 32 = 0) : REnc op rd rs1 rs2 n := by
  intro w
  have ht := tab_at op h1 h2
  unfold tabChk at ht
  simp only [Bool.and_eq_true, beq_iff_eq, decide_eq_true_eq] at ht
  obtain ⟨⟨⟨⟨⟨⟨⟨⟨⟨⟨t1, t2⟩, t3⟩, t4⟩, t5⟩, t6⟩, t7⟩, t8⟩, t9⟩, t10⟩, t11⟩ := ht
  have hkO : (opR op).2.1 = 1 := by rw [kind_same]; unfold kindO; rw [if_pos ⟨h1, h2⟩, hk]
  have hsh : fH op = 0 := t4.trans hs
  have hV : ∀ w, Calls Tryz.prog 25 #[.int .i64 op] w fun e w' => e = .returned (operV (opN op) 1 (fC op) (fF op) (fS op) 0) ∧ Below w.heap.size w w' := fun w => by
    have h := of_any op w
    unfold opV at h
    rw [hkO, t1, t2, t3, show (opR op).2.2.2.2.2 = 0 from hsh] at h
    exact h
  have hRR := right1 op rd rs1 rs2 n (opN op) (fC op) (fF op) (fS op) 0 (rightB op rd rs1 rs2 n) (immB 1 0 n) (name_some op h1 h2) (by unfold rightB; rw [decide_eq_true ⟨h1, h2⟩, Bool.true_and, hk, hs]) (fun w => may_any (opN op) 1 (fC op) (fF op) (fS op) 0 n w (.inl rfl)) hV
  by_cases hT : rightB op rd rs1 rs2 n = true
  · unfold encR encE
    rw [if_pos hT, if_pos hT]
    have hT' := hT
    unfold rightB at hT'
    rw [Bool.and_eq_true, Bool.and_eq_true, hk, hs] at hT'
    obtain ⟨-, hr, hi⟩ := hT'
    rw [hT] at hRR
    obtain ⟨⟨x1, y1⟩, ⟨x2, y2⟩, x3, y3⟩ := regs_in _ _ _ _ hr
    obtain ⟨rd, rfl⟩ := Int.eq_ofNat_of_zero_le x1
    obtain ⟨rs1, rfl⟩ := Int.eq_ofNat_of_zero_le x2
    obtain ⟨rs2, rfl⟩ := Int.eq_ofNat_of_zero_le x3
    have hn : n = 0 := by simpa [immB] using hi
    have hD : fC op + fF op * 4096 + fS op * 33554432 = bareN op := by
      have := t10
      rw [hk, hsh] at this
      simpa [ownD] using this
    unfold encB
    rw [hk, Int.toNat_natCast, Int.toNat_natCast, Int.toNat_natCast]
    exact fin_c1 op n (opN op) 0 (bareN op) (fC op) (fF op) (fS op) rd rs1 rs2 (n % 4294967296).toNat hb hD t5 t6 t7 g0 g1 g2 hr hn (by omega) hRR hV w
  · have hF : rightB op rd rs1 rs2 n = false := by rw [Bool.eq_false_iff]; exact hT
    unfold encR encE
    rw [if_neg hT, if_neg hT]
    rw [hF] at hRR
    exact renc_no op rd rs1 rs2 n hRR w
theorem all_c2k2 (op rd rs1 rs2 n : Int) (h1 : 1 ≤ op) (h2 : op ≤ 82) (hb : bareN op < 32768) (hk : kindZ (bareN op) = 2) (hs : shiftZ (bareN op) = 0) (g0 : bareN op / 128 % 32 = 0) : REnc op rd rs1 rs2 n := by
  intro w
  have ht := tab_at op h1 h2
  unfold tabChk at ht
  simp only [Bool.and_eq_true, beq_iff_eq, decide_eq_true_eq] at ht
  obtain ⟨⟨⟨⟨⟨⟨⟨⟨⟨⟨t1, t2⟩, t3⟩, t4⟩, t5⟩, t6⟩, t7⟩, t8⟩, t9⟩, t10⟩, t11⟩ := ht
  have hkO : (opR op).2.1 = 2 := by rw [kind_same]; unfold kindO; rw [if_pos ⟨h1, h2⟩, hk]
  have hsh : fH op = 0 := t4.trans hs
  have hV : ∀ w, Calls Tryz.prog 25 #[.int .i64 op] w fun e w' => e = .returned (operV (opN op) 2 (fC op) (fF op) (fS op) 0) ∧ Below w.heap.size w w' := fun w => by
    have h := of_any op w
    unfold opV at h
    rw [hkO, t1, t2, t3, show (opR op).2.2.2.2.2 = 0 from hsh] at h
    exact h
  have hRR := right2 op rd rs1 rs2 n (opN op) (fC op) (fF op) (fS op) 0 (rightB op rd rs1 rs2 n) (immB 2 0 n) (name_some op h1 h2) (by unfold rightB; rw [decide_eq_true ⟨h1, h2⟩, Bool.true_and, hk, hs]) (fun w => may_any (opN op) 2 (fC op) (fF op) (fS op) 0 n w (.inl rfl)) hV
  by_cases hT : rightB op rd rs1 rs2 n = true
  · unfold encR encE
    rw [if_pos hT, if_pos hT]
    have hT' := hT
    unfold rightB at hT'
    rw [Bool.and_eq_true, Bool.and_eq_true, hk, hs] at hT'
    obtain ⟨-, hr, hi⟩ := hT'
    rw [hT] at hRR
    obtain ⟨⟨x1, y1⟩, ⟨x2, y2⟩, x3, y3⟩ := regs_in _ _ _ _ hr
    obtain ⟨rd, rfl⟩ := Int.eq_ofNat_of_zero_le x1
    obtain ⟨rs1, rfl⟩ := Int.eq_ofNat_of_zero_le x2
    obtain ⟨rs2, rfl⟩ := Int.eq_ofNat_of_zero_le x3
    have hn : -2048 ≤ n ∧ n < 2048 := by simpa [immB] using hi
    have hD : fC op + fF op * 4096 = bareN op := by
      have := t10
      rw [hk, hsh] at this
      simpa [ownD] using this
    unfold encB
    rw [hk, Int.toNat_natCast, Int.toNat_natCast, Int.toNat_natCast]
    exact fin_c2k2 op n (opN op) 0 (bareN op) (fC op) (fF op) (fS op) rd rs1 rs2 (n % 4294967296).toNat hb hD t5 t6 t7 g0 hr hn (by omega) rfl hRR hV w
  · have hF : rightB op rd rs1 rs2 n = false := by rw [Bool.eq_false_iff]; exact hT
    unfold encR encE
    rw [if_neg hT, if_neg hT]
    rw [hF] at hRR
    exact renc_no op rd rs1 rs2 n hRR w
theorem all_c2k3 (op rd rs1 rs2 n : Int) (h1 : 1 ≤ op) (h2 : op ≤ 82) (hb : bareN op < 32768) (hk : kindZ (bareN op) = 3) (hs : shiftZ (bareN op) = 0) (g0 : bareN op / 128 % 32 = 0) : REnc op rd rs1 rs2 n := by
  intro w
  have ht := tab_at op h1 h2
  unfold tabChk at ht
  simp only [Bool.and_eq_true, beq_iff_eq, decide_eq_true_eq] at ht
  obtain ⟨⟨⟨⟨⟨⟨⟨⟨⟨⟨t1, t2⟩, t3⟩, t4⟩, t5⟩, t6⟩, t7⟩, t8⟩, t9⟩, t10⟩, t11⟩ := ht
  have hkO : (opR op).2.1 = 3 := by rw [kind_same]; unfold kindO; rw [if_pos ⟨h1, h2⟩, hk]
  have hsh : fH op = 0 := t4.trans hs
  have hV : ∀ w, Calls Tryz.prog 25 #[.int .i64 op] w fun e w' => e = .returned (operV (opN op) 3 (fC op) (fF op) (fS op) 0) ∧ Below w.heap.size w w' := fun w => by
    have h := of_any op w
    unfold opV at h
    rw [hkO, t1, t2, t3, show (opR op).2.2.2.2.2 = 0 from hsh] at h
    exact h
  have hRR := right3 op rd rs1 rs2 n (opN op) (fC op) (fF op) (fS op) 0 (rightB op rd rs1 rs2 n) (immB 3 0 n) (name_some op h1 h2) (by unfold rightB; rw [decide_eq_true ⟨h1, h2⟩, Bool.true_and, hk, hs]) (fun w => may_any (opN op) 3 (fC op) (fF op) (fS op) 0 n w (.inl rfl)) hV
  by_cases hT : rightB op rd rs1 rs2 n = true
  · unfold encR encE
    rw [if_pos hT, if_pos hT]
    have hT' := hT
    unfold rightB at hT'
    rw [Bool.and_eq_true, Bool.and_eq_true, hk, hs] at hT'
    obtain ⟨-, hr, hi⟩ := hT'
    rw [hT] at hRR
    obtain ⟨⟨x1, y1⟩, ⟨x2, y2⟩, x3, y3⟩ := regs_in _ _ _ _ hr
    obtain ⟨rd, rfl⟩ := Int.eq_ofNat_of_zero_le x1
    obtain ⟨rs1, rfl⟩ := Int.eq_ofNat_of_zero_le x2
    obtain ⟨rs2, rfl⟩ := Int.eq_ofNat_of_zero_le x3
    have hn : -2048 ≤ n ∧ n < 2048 := by simpa [immB] using hi
    have hD : fC op + fF op * 4096 = bareN op := by
      have := t10
      rw [hk, hsh] at this
      simpa [ownD] using this
    unfold encB
    rw [hk, Int.toNat_natCast, Int.toNat_natCast, Int.toNat_natCast]
    exact fin_c2k3 op n (opN op) 0 (bareN op) (fC op) (fF op) (fS op) rd rs1 rs2 (n % 4294967296).toNat hb hD t5 t6 t7 g0 hr hn (by omega) rfl hRR hV w
  · have hF : rightB op rd rs1 rs2 n = false := by rw [Bool.eq_false_iff]; exact hT
    unfold encR encE
    rw [if_neg hT, if_neg hT]
    rw [hF] at hRR
    exact renc_no op rd rs1 rs2 n hRR w
theorem all_c3 (op rd rs1 rs2 n : Int) (h1 : 1 ≤ op) (h2 : op ≤ 82) (hb : bareN op < 4294967296) (hk : kindZ (bareN op) = 2) (hs : shiftZ (bareN op) = 6) (g0 : bareN op / 128 % 32 = 0) (g1 : bareN op / 32768 % 32 = 0) (g2 : bareN op / 1048576 % 64 = 0) : REnc op rd rs1 rs2 n := by
  intro w
  have ht := tab_at op h1 h2
  unfold tabChk at ht
  simp only [Bool.and_eq_true, beq_iff_eq, decide_eq_true_eq] at ht
  obtain ⟨⟨⟨⟨⟨⟨⟨⟨⟨⟨t1, t2⟩, t3⟩, t4⟩, t5⟩, t6⟩, t7⟩, t8⟩, t9⟩, t10⟩, t11⟩ := ht
  have hkO : (opR op).2.1 = 2 := by rw [kind_same]; unfold kindO; rw [if_pos ⟨h1, h2⟩, hk]
  have hsh : fH op = 6 := t4.trans hs
  have hV : ∀ w, Calls Tryz.prog 25 #[.int .i64 op] w fun e w' => e = .returned (operV (opN op) 2 (fC op) (fF op) (fS op) 6) ∧ Below w.heap.size w w' := fun w => by
    have h := of_any op w
    unfold opV at h
    rw [hkO, t1, t2, t3, show (opR op).2.2.2.2.2 = 6 from hsh] at h
    exact h
  have hRR := right2 op rd rs1 rs2 n (opN op) (fC op) (fF op) (fS op) 6 (rightB op rd rs1 rs2 n) (immB 2 6 n) (name_some op h1 h2) (by unfold rightB; rw [decide_eq_true ⟨h1, h2⟩, Bool.true_and, hk, hs]) (fun w => may_any (opN op) 2 (fC op) (fF op) (fS op) 6 n w (.inr ⟨rfl, .inr rfl⟩)) hV
  by_cases hT : rightB op rd rs1 rs2 n = true
  · unfold encR encE
    rw [if_pos hT, if_pos hT]
    have hT' := hT
    unfold rightB at hT'
    rw [Bool.and_eq_true, Bool.and_eq_true, hk, hs] at hT'
    obtain ⟨-, hr, hi⟩ := hT'
    rw [hT] at hRR
    obtain ⟨⟨x1, y1⟩, ⟨x2, y2⟩, x3, y3⟩ := regs_in _ _ _ _ hr
    obtain ⟨rd, rfl⟩ := Int.eq_ofNat_of_zero_le x1
    obtain ⟨rs1, rfl⟩ := Int.eq_ofNat_of_zero_le x2
    obtain ⟨rs2, rfl⟩ := Int.eq_ofNat_of_zero_le x3
    have hn : 0 ≤ n ∧ n < 64 := by simpa [immB] using hi
    have hD : fC op + fF op * 4096 + fS op * 67108864 = bareN op := by
      have := t10
      rw [hk, hsh] at this
      simpa [ownD] using this
    unfold encB
    rw [hk, Int.toNat_natCast, Int.toNat_natCast, Int.toNat_natCast]
    exact fin_c3 op n (opN op) 6 (bareN op) (fC op) (fF op) (fS op) rd rs1 rs2 (n % 4294967296).toNat hb hD t5 t6 (t8 hsh) g0 g1 g2 hr hn (by omega) rfl hRR hV w
  · have hF : rightB op rd rs1 rs2 n = false := by rw [Bool.eq_false_iff]; exact hT
    unfold encR encE
    rw [if_neg hT, if_neg hT]
    rw [hF] at hRR
    exact renc_no op rd rs1 rs2 n hRR w
theorem all_c4 (op rd rs1 rs2 n : Int) (h1 : 1 ≤ op) (h2 : op ≤ 82) (hb : bareN op < 4294967296) (hk : kindZ (bareN op) = 2) (hs : shiftZ (bareN op) = 5) (g0 : bareN op / 128 % 32 = 0) (g1 : bareN op / 32768 % 32 = 0) (g2 : bareN op / 1048576 % 32 = 0) : REnc op rd rs1 rs2 n := by
  intro w
  have ht := tab_at op h1 h2
  unfold tabChk at ht
  simp only [Bool.and_eq_true, beq_iff_eq, decide_eq_true_eq] at ht
  obtain ⟨⟨⟨⟨⟨⟨⟨⟨⟨⟨t1, t2⟩, t3⟩, t4⟩, t5⟩, t6⟩, t7⟩, t8⟩, t9⟩, t10⟩, t11⟩ := ht
  have hkO : (opR op).2.1 = 2 := by rw [kind_same]; unfold kindO; rw [if_pos ⟨h1, h2⟩, hk]
  have hsh : fH op = 5 := t4.trans hs
  have hV : ∀ w, Calls Tryz.prog 25 #[.int .i64 op] w fun e w' => e = .returned (operV (opN op) 2 (fC op) (fF op) (fS op) 5) ∧ Below w.heap.size w w' := fun w => by
    have h := of_any op w
    unfold opV at h
    rw [hkO, t1, t2, t3, show (opR op).2.2.2.2.2 = 5 from hsh] at h
    exact h
  have hRR := right2 op rd rs1 rs2 n (opN op) (fC op) (fF op) (fS op) 5 (rightB op rd rs1 rs2 n) (immB 2 5 n) (name_some op h1 h2) (by unfold rightB; rw [decide_eq_true ⟨h1, h2⟩, Bool.true_and, hk, hs]) (fun w => may_any (opN op) 2 (fC op) (fF op) (fS op) 5 n w (.inr ⟨rfl, .inl rfl⟩)) hV
  by_cases hT : rightB op rd rs1 rs2 n = true
  · unfold encR encE
    rw [if_pos hT, if_pos hT]
    have hT' := hT
    unfold rightB at hT'
    rw [Bool.and_eq_true, Bool.and_eq_true, hk, hs] at hT'
    obtain ⟨-, hr, hi⟩ := hT'
    rw [hT] at hRR
    obtain ⟨⟨x1, y1⟩, ⟨x2, y2⟩, x3, y3⟩ := regs_in _ _ _ _ hr
    obtain ⟨rd, rfl⟩ := Int.eq_ofNat_of_zero_le x1
    obtain ⟨rs1, rfl⟩ := Int.eq_ofNat_of_zero_le x2
    obtain ⟨rs2, rfl⟩ := Int.eq_ofNat_of_zero_le x3
    have hn : 0 ≤ n ∧ n < 32 := by simpa [immB] using hi
    have hD : fC op + fF op * 4096 + fS op * 33554432 = bareN op := by
      have := t10
      rw [hk, hsh] at this
      simpa [ownD] using this
    unfold encB
    rw [hk, Int.toNat_natCast, Int.toNat_natCast, Int.toNat_natCast]
    exact fin_c4 op n (opN op) 5 (bareN op) (fC op) (fF op) (fS op) rd rs1 rs2 (n % 4294967296).toNat hb hD t5 t6 t7 g0 g1 g2 hr hn (by omega) rfl hRR hV w
  · have hF : rightB op rd rs1 rs2 n = false := by rw [Bool.eq_false_iff]; exact hT
    unfold encR encE
    rw [if_neg hT, if_neg hT]
    rw [hF] at hRR
    exact renc_no op rd rs1 rs2 n hRR w
theorem all_c5 (op rd rs1 rs2 n : Int) (h1 : 1 ≤ op) (h2 : op ≤ 82) (hb : bareN op < 32768) (hk : kindZ (bareN op) = 4) (hs : shiftZ (bareN op) = 0) (g0 : bareN op / 128 % 32 = 0) : REnc op rd rs1 rs2 n := by
  intro w
  have ht := tab_at op h1 h2
  unfold tabChk at ht
  simp only [Bool.and_eq_true, beq_iff_eq, decide_eq_true_eq] at ht
  obtain ⟨⟨⟨⟨⟨⟨⟨⟨⟨⟨t1, t2⟩, t3⟩, t4⟩, t5⟩, t6⟩, t7⟩, t8⟩, t9⟩, t10⟩, t11⟩ := ht
  have hkO : (opR op).2.1 = 4 := by rw [kind_same]; unfold kindO; rw [if_pos ⟨h1, h2⟩, hk]
  have hsh : fH op = 0 := t4.trans hs
  have hV : ∀ w, Calls Tryz.prog 25 #[.int .i64 op] w fun e w' => e = .returned (operV (opN op) 4 (fC op) (fF op) (fS op) 0) ∧ Below w.heap.size w w' := fun w => by
    have h := of_any op w
    unfold opV at h
    rw [hkO, t1, t2, t3, show (opR op).2.2.2.2.2 = 0 from hsh] at h
    exact h
  have hRR := right4 op rd rs1 rs2 n (opN op) (fC op) (fF op) (fS op) 0 (rightB op rd rs1 rs2 n) (immB 4 0 n) (name_some op h1 h2) (by unfold rightB; rw [decide_eq_true ⟨h1, h2⟩, Bool.true_and, hk, hs]) (fun w => may_any (opN op) 4 (fC op) (fF op) (fS op) 0 n w (.inl rfl)) hV
  by_cases hT : rightB op rd rs1 rs2 n = true
  · unfold encR encE
    rw [if_pos hT, if_pos hT]
    have hT' := hT
    unfold rightB at hT'
    rw [Bool.and_eq_true, Bool.and_eq_true, hk, hs] at hT'
    obtain ⟨-, hr, hi⟩ := hT'
    rw [hT] at hRR
    obtain ⟨⟨x1, y1⟩, ⟨x2, y2⟩, x3, y3⟩ := regs_in _ _ _ _ hr
    obtain ⟨rd, rfl⟩ := Int.eq_ofNat_of_zero_le x1
    obtain ⟨rs1, rfl⟩ := Int.eq_ofNat_of_zero_le x2
    obtain ⟨rs2, rfl⟩ := Int.eq_ofNat_of_zero_le x3
    have hn : -2048 ≤ n ∧ n < 2048 := by simpa [immB] using hi
    have hD : fC op + fF op * 4096 = bareN op := by
      have := t10
      rw [hk, hsh] at this
      simpa [ownD] using this
    unfold encB
    rw [hk, Int.toNat_natCast, Int.toNat_natCast, Int.toNat_natCast]
    exact fin_c5 op n (opN op) 0 (bareN op) (fC op) (fF op) (fS op) rd rs1 rs2 (n % 4294967296).toNat hb hD t5 t6 t7 g0 hr hn (by omega) hRR hV w
  · have hF : rightB op rd rs1 rs2 n = false := by rw [Bool.eq_false_iff]; exact hT
    unfold encR encE
    rw [if_neg hT, if_neg hT]
    rw [hF] at hRR
    exact renc_no op rd rs1 rs2 n hRR w
theorem all_c6 (op rd rs1 rs2 n : Int) (h1 : 1 ≤ op) (h2 : op ≤ 82) (hb : bareN op < 32768) (hk : kindZ (bareN op) = 5) (hs : shiftZ (bareN op) = 0) (g0 : bareN op / 128 % 32 = 0) : REnc op rd rs1 rs2 n := by
  intro w
  have ht := tab_at op h1 h2
  unfold tabChk at ht
  simp only [Bool.and_eq_true, beq_iff_eq, decide_eq_true_eq] at ht
  obtain ⟨⟨⟨⟨⟨⟨⟨⟨⟨⟨t1, t2⟩, t3⟩, t4⟩, t5⟩, t6⟩, t7⟩, t8⟩, t9⟩, t10⟩, t11⟩ := ht
  have hkO : (opR op).2.1 = 5 := by rw [kind_same]; unfold kindO; rw [if_pos ⟨h1, h2⟩, hk]
  have hsh : fH op = 0 := t4.trans hs
  have hV : ∀ w, Calls Tryz.prog 25 #[.int .i64 op] w fun e w' => e = .returned (operV (opN op) 5 (fC op) (fF op) (fS op) 0) ∧ Below w.heap.size w w' := fun w => by
    have h := of_any op w
    unfold opV at h
    rw [hkO, t1, t2, t3, show (opR op).2.2.2.2.2 = 0 from hsh] at h
    exact h
  have hRR := right5 op rd rs1 rs2 n (opN op) (fC op) (fF op) (fS op) 0 (rightB op rd rs1 rs2 n) (immB 5 0 n) (name_some op h1 h2) (by unfold rightB; rw [decide_eq_true ⟨h1, h2⟩, Bool.true_and, hk, hs]) (fun w => may_any (opN op) 5 (fC op) (fF op) (fS op) 0 n w (.inl rfl)) hV
  by_cases hT : rightB op rd rs1 rs2 n = true
  · unfold encR encE
    rw [if_pos hT, if_pos hT]
    have hT' := hT
    unfold rightB at hT'
    rw [Bool.and_eq_true, Bool.and_eq_true, hk, hs] at hT'
    obtain ⟨-, hr, hi⟩ := hT'
    rw [hT] at hRR
    obtain ⟨⟨x1, y1⟩, ⟨x2, y2⟩, x3, y3⟩ := regs_in _ _ _ _ hr
    obtain ⟨rd, rfl⟩ := Int.eq_ofNat_of_zero_le x1
    obtain ⟨rs1, rfl⟩ := Int.eq_ofNat_of_zero_le x2
    obtain ⟨rs2, rfl⟩ := Int.eq_ofNat_of_zero_le x3
    have hn : n % 2 = 0 ∧ -4096 ≤ n ∧ n < 4096 := by simpa [immB] using hi
    have hD : fC op + fF op * 4096 = bareN op := by
      have := t10
      rw [hk, hsh] at this
      simpa [ownD] using this
    unfold encB
    rw [hk, Int.toNat_natCast, Int.toNat_natCast, Int.toNat_natCast]
    exact fin_c6 op n (opN op) 0 (bareN op) (fC op) (fF op) (fS op) rd rs1 rs2 (n % 4294967296).toNat hb hD t5 t6 t7 g0 hr hn (by omega) hRR hV w
  · have hF : rightB op rd rs1 rs2 n = false := by rw [Bool.eq_false_iff]; exact hT
    unfold encR encE
    rw [if_neg hT, if_neg hT]
    rw [hF] at hRR
    exact renc_no op rd rs1 rs2 n hRR w
theorem all_c7 (op rd rs1 rs2 n : Int) (h1 : 1 ≤ op) (h2 : op ≤ 82) (hb : bareN op < 128) (hk : kindZ (bareN op) = 6) (hs : shiftZ (bareN op) = 0)  : REnc op rd rs1 rs2 n := by
  intro w
  have ht := tab_at op h1 h2
  unfold tabChk at ht
  simp only [Bool.and_eq_true, beq_iff_eq, decide_eq_true_eq] at ht
  obtain ⟨⟨⟨⟨⟨⟨⟨⟨⟨⟨t1, t2⟩, t3⟩, t4⟩, t5⟩, t6⟩, t7⟩, t8⟩, t9⟩, t10⟩, t11⟩ := ht
  have hkO : (opR op).2.1 = 6 := by rw [kind_same]; unfold kindO; rw [if_pos ⟨h1, h2⟩, hk]
  have hsh : fH op = 0 := t4.trans hs
  have hV : ∀ w, Calls Tryz.prog 25 #[.int .i64 op] w fun e w' => e = .returned (operV (opN op) 6 (fC op) (fF op) (fS op) 0) ∧ Below w.heap.size w w' := fun w => by
    have h := of_any op w
    unfold opV at h
    rw [hkO, t1, t2, t3, show (opR op).2.2.2.2.2 = 0 from hsh] at h
    exact h
  have hRR := right6 op rd rs1 rs2 n (opN op) (fC op) (fF op) (fS op) 0 (rightB op rd rs1 rs2 n) (immB 6 0 n) (name_some op h1 h2) (by unfold rightB; rw [decide_eq_true ⟨h1, h2⟩, Bool.true_and, hk, hs]) (fun w => may_any (opN op) 6 (fC op) (fF op) (fS op) 0 n w (.inl rfl)) hV
  by_cases hT : rightB op rd rs1 rs2 n = true
  · unfold encR encE
    rw [if_pos hT, if_pos hT]
    have hT' := hT
    unfold rightB at hT'
    rw [Bool.and_eq_true, Bool.and_eq_true, hk, hs] at hT'
    obtain ⟨-, hr, hi⟩ := hT'
    rw [hT] at hRR
    obtain ⟨⟨x1, y1⟩, ⟨x2, y2⟩, x3, y3⟩ := regs_in _ _ _ _ hr
    obtain ⟨rd, rfl⟩ := Int.eq_ofNat_of_zero_le x1
    obtain ⟨rs1, rfl⟩ := Int.eq_ofNat_of_zero_le x2
    obtain ⟨rs2, rfl⟩ := Int.eq_ofNat_of_zero_le x3
    have hn : n % 4096 = 0 ∧ -2147483648 ≤ n ∧ n < 2147483648 := by simpa [immB] using hi
    have hD : fC op = bareN op := by
      have := t10
      rw [hk, hsh] at this
      simpa [ownD] using this
    unfold encB
    rw [hk, Int.toNat_natCast, Int.toNat_natCast, Int.toNat_natCast]
    exact fin_c7 op n (opN op) 0 (bareN op) (fC op) (fF op) (fS op) rd rs1 rs2 (n % 4294967296).toNat hb hD t5 t6 t7 (t11 (.inl hk))  hr hn (by omega) hRR hV w
  · have hF : rightB op rd rs1 rs2 n = false := by rw [Bool.eq_false_iff]; exact hT
    unfold encR encE
    rw [if_neg hT, if_neg hT]
    rw [hF] at hRR
    exact renc_no op rd rs1 rs2 n hRR w
theorem all_c8 (op rd rs1 rs2 n : Int) (h1 : 1 ≤ op) (h2 : op ≤ 82) (hb : bareN op < 128) (hk : kindZ (bareN op) = 7) (hs : shiftZ (bareN op) = 0)  : REnc op rd rs1 rs2 n := by
  intro w
  have ht := tab_at op h1 h2
  unfold tabChk at ht
  simp only [Bool.and_eq_true, beq_iff_eq, decide_eq_true_eq] at ht
  obtain ⟨⟨⟨⟨⟨⟨⟨⟨⟨⟨t1, t2⟩, t3⟩, t4⟩, t5⟩, t6⟩, t7⟩, t8⟩, t9⟩, t10⟩, t11⟩ := ht
  have hkO : (opR op).2.1 = 7 := by rw [kind_same]; unfold kindO; rw [if_pos ⟨h1, h2⟩, hk]
  have hsh : fH op = 0 := t4.trans hs
  have hV : ∀ w, Calls Tryz.prog 25 #[.int .i64 op] w fun e w' => e = .returned (operV (opN op) 7 (fC op) (fF op) (fS op) 0) ∧ Below w.heap.size w w' := fun w => by
    have h := of_any op w
    unfold opV at h
    rw [hkO, t1, t2, t3, show (opR op).2.2.2.2.2 = 0 from hsh] at h
    exact h
  have hRR := right7 op rd rs1 rs2 n (opN op) (fC op) (fF op) (fS op) 0 (rightB op rd rs1 rs2 n) (immB 7 0 n) (name_some op h1 h2) (by unfold rightB; rw [decide_eq_true ⟨h1, h2⟩, Bool.true_and, hk, hs]) (fun w => may_any (opN op) 7 (fC op) (fF op) (fS op) 0 n w (.inl rfl)) hV
  by_cases hT : rightB op rd rs1 rs2 n = true
  · unfold encR encE
    rw [if_pos hT, if_pos hT]
    have hT' := hT
    unfold rightB at hT'
    rw [Bool.and_eq_true, Bool.and_eq_true, hk, hs] at hT'
    obtain ⟨-, hr, hi⟩ := hT'
    rw [hT] at hRR
    obtain ⟨⟨x1, y1⟩, ⟨x2, y2⟩, x3, y3⟩ := regs_in _ _ _ _ hr
    obtain ⟨rd, rfl⟩ := Int.eq_ofNat_of_zero_le x1
    obtain ⟨rs1, rfl⟩ := Int.eq_ofNat_of_zero_le x2
    obtain ⟨rs2, rfl⟩ := Int.eq_ofNat_of_zero_le x3
    have hn : n % 2 = 0 ∧ -1048576 ≤ n ∧ n < 1048576 := by simpa [immB] using hi
    have hD : fC op = bareN op := by
      have := t10
      rw [hk, hsh] at this
      simpa [ownD] using this
    unfold encB
    rw [hk, Int.toNat_natCast, Int.toNat_natCast, Int.toNat_natCast]
    exact fin_c8 op n (opN op) 0 (bareN op) (fC op) (fF op) (fS op) rd rs1 rs2 (n % 4294967296).toNat hb hD t5 t6 t7 (t11 (.inr hk))  hr hn (by omega) hRR hV w
  · have hF : rightB op rd rs1 rs2 n = false := by rw [Bool.eq_false_iff]; exact hT
    unfold encR encE
    rw [if_neg hT, if_neg hT]
    rw [hF] at hRR
    exact renc_no op rd rs1 rs2 n hRR w
theorem all_c9 (op rd rs1 rs2 n : Int) (h1 : 1 ≤ op) (h2 : op ≤ 82) (hb : bareN op < 4294967296) (hk : kindZ (bareN op) = 8) (hs : shiftZ (bareN op) = 0) (g0 : bareN op / 128 % 32 = 0) (g1 : bareN op / 32768 % 32 = 0) : REnc op rd rs1 rs2 n := by
  intro w
  have ht := tab_at op h1 h2
  unfold tabChk at ht
  simp only [Bool.and_eq_true, beq_iff_eq, decide_eq_true_eq] at ht
  obtain ⟨⟨⟨⟨⟨⟨⟨⟨⟨⟨t1, t2⟩, t3⟩, t4⟩, t5⟩, t6⟩, t7⟩, t8⟩, t9⟩, t10⟩, t11⟩ := ht
  have hkO : (opR op).2.1 = 8 := by rw [kind_same]; unfold kindO; rw [if_pos ⟨h1, h2⟩, hk]
  have hsh : fH op = 0 := t4.trans hs
  have hV : ∀ w, Calls Tryz.prog 25 #[.int .i64 op] w fun e w' => e = .returned (operV (opN op) 8 (fC op) (fF op) (fS op) 0) ∧ Below w.heap.size w w' := fun w => by
    have h := of_any op w
    unfold opV at h
    rw [hkO, t1, t2, t3, show (opR op).2.2.2.2.2 = 0 from hsh] at h
    exact h
  have hRR := right8 op rd rs1 rs2 n (opN op) (fC op) (fF op) (fS op) 0 (rightB op rd rs1 rs2 n) (immB 8 0 n) (name_some op h1 h2) (by unfold rightB; rw [decide_eq_true ⟨h1, h2⟩, Bool.true_and, hk, hs]) (fun w => may_any (opN op) 8 (fC op) (fF op) (fS op) 0 n w (.inl rfl)) hV
  by_cases hT : rightB op rd rs1 rs2 n = true
  · unfold encR encE
    rw [if_pos hT, if_pos hT]
    have hT' := hT
    unfold rightB at hT'
    rw [Bool.and_eq_true, Bool.and_eq_true, hk, hs] at hT'
    obtain ⟨-, hr, hi⟩ := hT'
    rw [hT] at hRR
    obtain ⟨⟨x1, y1⟩, ⟨x2, y2⟩, x3, y3⟩ := regs_in _ _ _ _ hr
    obtain ⟨rd, rfl⟩ := Int.eq_ofNat_of_zero_le x1
    obtain ⟨rs1, rfl⟩ := Int.eq_ofNat_of_zero_le x2
    obtain ⟨rs2, rfl⟩ := Int.eq_ofNat_of_zero_le x3
    have hn : n = 0 := by simpa [immB] using hi
    have hD : fC op + fF op * 4096 + fS op * 1048576 + 127 * 33554432 = bareN op := by
      have := t10
      rw [hk, hsh] at this
      simpa [ownD] using this
    unfold encB
    rw [hk, Int.toNat_natCast, Int.toNat_natCast, Int.toNat_natCast]
    exact fin_c9 op n (opN op) 0 (bareN op) (fC op) (fF op) (fS op) rd rs1 rs2 (n % 4294967296).toNat hb hD t5 t6 (t9 hk) g0 g1 hr hn (by omega) hRR hV w
  · have hF : rightB op rd rs1 rs2 n = false := by rw [Bool.eq_false_iff]; exact hT
    unfold encR encE
    rw [if_neg hT, if_neg hT]
    rw [hF] at hRR
    exact renc_no op rd rs1 rs2 n hRR w
theorem all_c10 (op rd rs1 rs2 n : Int) (h1 : 1 ≤ op) (h2 : op ≤ 82) (hb : bareN op < 4294967296) (hk : kindZ (bareN op) = 9) (hs : shiftZ (bareN op) = 0)  : REnc op rd rs1 rs2 n := by
  intro w
  have ht := tab_at op h1 h2
  unfold tabChk at ht
  simp only [Bool.and_eq_true, beq_iff_eq, decide_eq_true_eq] at ht
  obtain ⟨⟨⟨⟨⟨⟨⟨⟨⟨⟨t1, t2⟩, t3⟩, t4⟩, t5⟩, t6⟩, t7⟩, t8⟩, t9⟩, t10⟩, t11⟩ := ht
  have hkO : (opR op).2.1 = 9 := by rw [kind_same]; unfold kindO; rw [if_pos ⟨h1, h2⟩, hk]
  have hsh : fH op = 0 := t4.trans hs
  have hV : ∀ w, Calls Tryz.prog 25 #[.int .i64 op] w fun e w' => e = .returned (operV (opN op) 9 (fC op) (fF op) (fS op) 0) ∧ Below w.heap.size w w' := fun w => by
    have h := of_any op w
    unfold opV at h
    rw [hkO, t1, t2, t3, show (opR op).2.2.2.2.2 = 0 from hsh] at h
    exact h
  have hRR := right9 op rd rs1 rs2 n (opN op) (fC op) (fF op) (fS op) 0 (rightB op rd rs1 rs2 n) (immB 9 0 n) (name_some op h1 h2) (by unfold rightB; rw [decide_eq_true ⟨h1, h2⟩, Bool.true_and, hk, hs]) (fun w => may_any (opN op) 9 (fC op) (fF op) (fS op) 0 n w (.inl rfl)) hV
  by_cases hT : rightB op rd rs1 rs2 n = true
  · unfold encR encE
    rw [if_pos hT, if_pos hT]
    have hT' := hT
    unfold rightB at hT'
    rw [Bool.and_eq_true, Bool.and_eq_true, hk, hs] at hT'
    obtain ⟨-, hr, hi⟩ := hT'
    rw [hT] at hRR
    obtain ⟨⟨x1, y1⟩, ⟨x2, y2⟩, x3, y3⟩ := regs_in _ _ _ _ hr
    obtain ⟨rd, rfl⟩ := Int.eq_ofNat_of_zero_le x1
    obtain ⟨rs1, rfl⟩ := Int.eq_ofNat_of_zero_le x2
    obtain ⟨rs2, rfl⟩ := Int.eq_ofNat_of_zero_le x3
    have hn : n = 0 := by simpa [immB] using hi
    have hD : fC op + fF op * 4096 + fS op * 1048576 = bareN op := by
      have := t10
      rw [hk, hsh] at this
      simpa [ownD] using this
    unfold encB
    rw [hk, Int.toNat_natCast, Int.toNat_natCast, Int.toNat_natCast]
    exact fin_c10 op n (opN op) 0 (bareN op) (fC op) (fF op) (fS op) rd rs1 rs2 (n % 4294967296).toNat hb hD t5 t6 t7  hr hn (by omega) hRR hV w
  · have hF : rightB op rd rs1 rs2 n = false := by rw [Bool.eq_false_iff]; exact hT
    unfold encR encE
    rw [if_neg hT, if_neg hT]
    rw [hF] at hRR
    exact renc_no op rd rs1 rs2 n hRR w
theorem all_c11 (op rd rs1 rs2 n : Int) (h1 : 1 ≤ op) (h2 : op ≤ 82) (hb : bareN op < 4294967296) (hk : kindZ (bareN op) = 10) (hs : shiftZ (bareN op) = 0) (g0 : bareN op / 32768 % 32 = 0) (g1 : bareN op / 1048576 % 32 = 0) : REnc op rd rs1 rs2 n := by
  intro w
  have ht := tab_at op h1 h2
  unfold tabChk at ht
  simp only [Bool.and_eq_true, beq_iff_eq, decide_eq_true_eq] at ht
  obtain ⟨⟨⟨⟨⟨⟨⟨⟨⟨⟨t1, t2⟩, t3⟩, t4⟩, t5⟩, t6⟩, t7⟩, t8⟩, t9⟩, t10⟩, t11⟩ := ht
  have hkO : (opR op).2.1 = 10 := by rw [kind_same]; unfold kindO; rw [if_pos ⟨h1, h2⟩, hk]
  have hsh : fH op = 0 := t4.trans hs
  have hV : ∀ w, Calls Tryz.prog 25 #[.int .i64 op] w fun e w' => e = .returned (operV (opN op) 10 (fC op) (fF op) (fS op) 0) ∧ Below w.heap.size w w' := fun w => by
    have h := of_any op w
    unfold opV at h
    rw [hkO, t1, t2, t3, show (opR op).2.2.2.2.2 = 0 from hsh] at h
    exact h
  have hRR := right10 op rd rs1 rs2 n (opN op) (fC op) (fF op) (fS op) 0 (rightB op rd rs1 rs2 n) (immB 10 0 n) (name_some op h1 h2) (by unfold rightB; rw [decide_eq_true ⟨h1, h2⟩, Bool.true_and, hk, hs]) (fun w => may_any (opN op) 10 (fC op) (fF op) (fS op) 0 n w (.inl rfl)) hV
  by_cases hT : rightB op rd rs1 rs2 n = true
  · unfold encR encE
    rw [if_pos hT, if_pos hT]
    have hT' := hT
    unfold rightB at hT'
    rw [Bool.and_eq_true, Bool.and_eq_true, hk, hs] at hT'
    obtain ⟨-, hr, hi⟩ := hT'
    rw [hT] at hRR
    obtain ⟨⟨x1, y1⟩, ⟨x2, y2⟩, x3, y3⟩ := regs_in _ _ _ _ hr
    obtain ⟨rd, rfl⟩ := Int.eq_ofNat_of_zero_le x1
    obtain ⟨rs1, rfl⟩ := Int.eq_ofNat_of_zero_le x2
    obtain ⟨rs2, rfl⟩ := Int.eq_ofNat_of_zero_le x3
    have hn : n = 0 := by simpa [immB] using hi
    have hD : fC op + fF op * 4096 + 128 + fS op * 33554432 = bareN op := by
      have := t10
      rw [hk, hsh] at this
      simpa [ownD] using this
    unfold encB
    rw [hk, Int.toNat_natCast, Int.toNat_natCast, Int.toNat_natCast]
    exact fin_c11 op n (opN op) 0 (bareN op) (fC op) (fF op) (fS op) rd rs1 rs2 (n % 4294967296).toNat hb hD t5 t6 t7 g0 g1 hr hn (by omega) hRR hV w
  · have hF : rightB op rd rs1 rs2 n = false := by rw [Bool.eq_false_iff]; exact hT
    unfold encR encE
    rw [if_neg hT, if_neg hT]
    rw [hF] at hRR
    exact renc_no op rd rs1 rs2 n hRR w
theorem rencode_any (op rd rs1 rs2 n : Int) (w : World) :
    Calls Tryz.prog 33 #[instV op rd rs1 rs2 n] w fun e w' => e = .returned (.tuple #[.int .u32 ((encR op rd rs1 rs2 n : Nat) : Int), .int .i64 (encE op rd rs1 rs2 n)]) ∧ Below w.heap.size w w' := by
  by_cases h : 1 ≤ op ∧ op ≤ 82
  · obtain ⟨h1, h2⟩ := h
    refine classes (P := fun b => b = bareN op → REnc op rd rs1 rs2 n) op h1 h2 ?_ ?_ ?_ ?_ ?_ ?_ ?_ ?_ ?_ ?_ ?_ rfl w
    · intro b hb hk hs g0 g1 g2 e; subst e; exact all_c1 op rd rs1 rs2 n h1 h2 hb hk hs g0 g1 g2
    · intro b hb hk hs g0 e; subst e; rcases hk with hk | hk
      · exact all_c2k2 op rd rs1 rs2 n h1 h2 hb hk hs g0
      · exact all_c2k3 op rd rs1 rs2 n h1 h2 hb hk hs g0
    · intro b hb hk hs g0 g1 g2 e; subst e; exact all_c3 op rd rs1 rs2 n h1 h2 hb hk hs g0 g1 g2
    · intro b hb hk hs g0 g1 g2 e; subst e; exact all_c4 op rd rs1 rs2 n h1 h2 hb hk hs g0 g1 g2
    · intro b hb hk hs g0 e; subst e; exact all_c5 op rd rs1 rs2 n h1 h2 hb hk hs g0
    · intro b hb hk hs g0 e; subst e; exact all_c6 op rd rs1 rs2 n h1 h2 hb hk hs g0
    · intro b hb hk hs  e; subst e; exact all_c7 op rd rs1 rs2 n h1 h2 hb hk hs 
    · intro b hb hk hs  e; subst e; exact all_c8 op rd rs1 rs2 n h1 h2 hb hk hs 
    · intro b hb hk hs g0 g1 e; subst e; exact all_c9 op rd rs1 rs2 n h1 h2 hb hk hs g0 g1
    · intro b hb hk hs  e; subst e; exact all_c10 op rd rs1 rs2 n h1 h2 hb hk hs 
    · intro b hb hk hs g0 g1 e; subst e; exact all_c11 op rd rs1 rs2 n h1 h2 hb hk hs g0 g1
  · have hF : rightB op rd rs1 rs2 n = false := by unfold rightB; rw [decide_eq_false h, Bool.false_and]
    unfold encR encE
    rw [hF]
    exact renc_no op rd rs1 rs2 n (right_out op rd rs1 rs2 n h) w
end Go.Proofs.YtegoddghfjfibaaGreatDoor.Is

