/- The laws of numbers and instructions: what is encoded is decoded, and again; no two instructions are one number. -/
import Derived.Test.YtaiphmmdallhcaaDoorIsaH
import Derived.Test.YtaiphmmdallhcaaDoorIsaP
namespace Go.Proofs.YtaiphmmdallhcaaDoor
set_option linter.unusedVariables false
set_option linter.unusedSimpArgs false
open Go.Joins Go.ChangeShapes Go.WideShapes Go.ChangeAt Go.RowKit

theorem encR_lt (op rd rs1 rs2 n : Int) : encR op rd rs1 rs2 n < 4294967296 := by
  unfold encR
  split
  · rename_i h
    unfold rightB at h
    rw [Bool.and_eq_true, decide_eq_true_iff, Bool.and_eq_true] at h
    obtain ⟨⟨h1, h2⟩, h3, h4⟩ := h
    obtain ⟨⟨x1, y1⟩, ⟨x2, y2⟩, x3, y3⟩ := regs_in _ _ _ _ h3
    exact ((trips op h1 h2).1 rd.toNat rs1.toNat rs2.toNat n (by rw [Int.toNat_of_nonneg x1, Int.toNat_of_nonneg x2, Int.toNat_of_nonneg x3]; exact h3) h4).1
  · decide
theorem back_dec (op rd rs1 rs2 n : Int) (h : rightB op rd rs1 rs2 n = true) :
    (1 ≤ op ∧ op ≤ 82) ∧ DecP (encR op rd rs1 rs2 n) op.toNat ∧ decV (encR op rd rs1 rs2 n) op.toNat = instV op rd rs1 rs2 n := by
  unfold encR
  rw [if_pos h]
  unfold rightB at h
  rw [Bool.and_eq_true, decide_eq_true_iff, Bool.and_eq_true] at h
  obtain ⟨⟨h1, h2⟩, h3, h4⟩ := h
  obtain ⟨⟨x1, y1⟩, ⟨x2, y2⟩, x3, y3⟩ := regs_in _ _ _ _ h3
  obtain ⟨-, a1, a2, a3, a4, a5⟩ := (trips op h1 h2).1 rd.toNat rs1.toNat rs2.toNat n (by rw [Int.toNat_of_nonneg x1, Int.toNat_of_nonneg x2, Int.toNat_of_nonneg x3]; exact h3) h4
  have ho : ((op.toNat : Nat) : Int) = op := Int.toNat_of_nonneg (by omega)
  refine ⟨⟨h1, h2⟩, .inr ⟨by omega, by omega, by rw [ho]; exact a1⟩, ?_⟩
  unfold decV
  rw [if_neg (by omega), ho, a2, a3, a4, a5, Int.toNat_of_nonneg x1, Int.toNat_of_nonneg x2, Int.toNat_of_nonneg x3]
theorem again_enc (x r : Nat) (hx : x < 4294967296) (hr : DecP x r) (h0 : r ≠ 0) :
    rightB r (rdN (kindZ (bareN r)) x) (rs1N (kindZ (bareN r)) x) (rs2N (kindZ (bareN r)) x) (immZ (kindZ (bareN r)) (shiftZ (bareN r)) x) = true ∧
      encR r (rdN (kindZ (bareN r)) x) (rs1N (kindZ (bareN r)) x) (rs2N (kindZ (bareN r)) x) (immZ (kindZ (bareN r)) (shiftZ (bareN r)) x) = x := by
  rcases hr with ⟨h, -⟩ | ⟨h1, h2, h3⟩
  · exact absurd h h0
  obtain ⟨a1, a2, a3⟩ := (trips (r : Int) (by omega) (by omega)).2 x hx h3
  have hR : rightB r (rdN (kindZ (bareN r)) x) (rs1N (kindZ (bareN r)) x) (rs2N (kindZ (bareN r)) x) (immZ (kindZ (bareN r)) (shiftZ (bareN r)) x) = true := by
    unfold rightB
    rw [decide_eq_true ⟨by omega, by omega⟩, a1, a2]; rfl
  refine ⟨hR, ?_⟩
  unfold encR
  rw [if_pos hR, Int.toNat_natCast, Int.toNat_natCast, Int.toNat_natCast]
  exact a3
theorem imm_in (x r : Nat) (hx : x < 4294967296) (hr : DecP x r) (h0 : r ≠ 0) : I64 (immZ (kindZ (bareN r)) (shiftZ (bareN r)) x) := by
  have h := (again_enc x r hx hr h0).1
  unfold rightB at h
  rw [Bool.and_eq_true, Bool.and_eq_true] at h
  have h := h.2.2
  generalize immZ (kindZ (bareN r)) (shiftZ (bareN r)) x = n at h ⊢
  unfold immB at h
  unfold I64
  split at h
  · split at h
    · rw [decide_eq_true_iff] at h; omega
    · split at h
      · rw [decide_eq_true_iff] at h; omega
      · rw [decide_eq_true_iff] at h; omega
  · split at h
    · rw [decide_eq_true_iff] at h; omega
    · split at h
      · rw [decide_eq_true_iff] at h; omega
      · split at h
        · rw [decide_eq_true_iff] at h; omega
        · rw [decide_eq_true_iff] at h; omega

set_option maxHeartbeats 1000000 in
theorem IsaBack_walk (op rd rs1 rs2 n : Int) (w : World) (hn : NT w) (hi : I64 n) :
    Calls Tryd.prog 6 #[instV op rd rs1 rs2 n] w fun e w' => e = .returned (.bool true) ∧ Below w.heap.size w w' := by
  have HN := Lib.hid hn
  have he := fun w hn => encode_any op rd rs1 rs2 n w hn hi
  have hE : encE op rd rs1 rs2 n = if rightB op rd rs1 rs2 n = true then 0 else 1 := rfl
  by_cases hR : rightB op rd rs1 rs2 n = true
  · obtain ⟨-, h1, h2⟩ := back_dec op rd rs1 rs2 n hR
    have hd := fun w hn => decode_any (encR op rd rs1 rs2 n) op.toNat (encR_lt _ _ _ _ _) h1 w hn
    rw [h2] at hd
    have h3 : decE op.toNat = 0 := by
      rcases h1 with ⟨h, -⟩ | ⟨h, -⟩
      · have := (back_dec op rd rs1 rs2 n hR).1; omega
      · unfold decE; rw [if_neg (by omega)]
    rw [h3] at hd
    rw [hE, if_pos hR] at he
    unfold instV at hd he ⊢
    generalize encR op rd rs1 rs2 n = v at hd he
    have HE := Lib.hid he
    have HD := Lib.hid hd
    clear hR hn hi he hE h1 h2 hd h3
    go_enter Tryd.func6, Tryd.ntmps6
    go_wp2_with fail
    have B0 := Lib.hid (Box5.new w (.int .i64 op) (.int .i64 rd) (.int .i64 rs1) (.int .i64 rs2) (.int .i64 n) 25)
    refine (awake_any _ (HN.out.on (bAlloc (Below.refl _ _) _))).mono ?_; rintro e w1 ⟨rfl, q1⟩
    have B1 := Lib.hid (B0.out.on q1); have Q1 := Lib.hid (bTrans (bAlloc (Below.refl _ _) _) q1); clear q1 B0
    obtain ⟨-, c0, c1, c2, c3, c4⟩ := B1.out
    go_wp2_with fail
    refine (HE.out _ (HN.out.on Q1.out)).mono ?_; rintro e w2 ⟨rfl, q2⟩
    have B2 := Lib.hid (B1.out.on q2); have Q2 := Lib.hid (bTrans Q1.out q2); clear q2 B1 Q1 c0 c1 c2 c3 c4
    go_wp2_with fail
    refine (HD.out _ (HN.out.on Q2.out)).mono ?_; rintro e w3 ⟨rfl, q3⟩
    have B3 := Lib.hid (B2.out.on q3); have Q3 := Lib.hid (bTrans Q2.out q3); clear q3 B2 Q2
    obtain ⟨-, c0, c1, c2, c3, c4⟩ := (B3.out.on (bAlloc (Below.refl _ _) (.cells #[.int .i64 op, .int .i64 rd, .int .i64 rs1, .int .i64 rs2, .int .i64 n] 25)))
    go_wp2_with fail
    go_ret
    exact ⟨rfl, bAlloc Q3.out _⟩
  · have h0 : encR op rd rs1 rs2 n = 0 := by unfold encR; rw [if_neg hR]
    rw [hE, if_neg hR, h0] at he
    unfold instV at he ⊢
    have HE := Lib.hid he
    clear hR hn hi he hE h0
    go_enter Tryd.func6, Tryd.ntmps6
    go_wp2_with fail
    have B0 := Lib.hid (Box5.new w (.int .i64 op) (.int .i64 rd) (.int .i64 rs1) (.int .i64 rs2) (.int .i64 n) 25)
    refine (awake_any _ (HN.out.on (bAlloc (Below.refl _ _) _))).mono ?_; rintro e w1 ⟨rfl, q1⟩
    have B1 := Lib.hid (B0.out.on q1); have Q1 := Lib.hid (bTrans (bAlloc (Below.refl _ _) _) q1); clear q1 B0
    obtain ⟨-, c0, c1, c2, c3, c4⟩ := B1.out
    go_wp2_with fail
    refine (HE.out _ (HN.out.on Q1.out)).mono ?_; rintro e w2 ⟨rfl, q2⟩
    have Q2 := Lib.hid (bTrans Q1.out q2); clear q2 B1 Q1 c0 c1 c2 c3 c4
    go_wp2_with fail
    go_ret
    exact ⟨rfl, Q2.out⟩

set_option maxHeartbeats 1000000 in
theorem IsaAgain_walk (x : Nat) (w : World) (hn : NT w) (hx : x < 4294967296) :
    Calls Tryd.prog 7 #[.int .u32 (x : Int)] w fun e w' => e = .returned (.bool true) ∧ Below w.heap.size w w' := by
  obtain ⟨r, hr⟩ := decP_ex x
  have HN := Lib.hid hn
  have hd := fun w hn => decode_any x r hx hr w hn
  by_cases h0 : r = 0
  · subst h0
    rw [dv0, show decE 0 = 40 from rfl] at hd
    unfold instV at hd
    have HD := Lib.hid hd
    clear hd hr hn
    go_enter Tryd.func7, Tryd.ntmps7
    go_wp2_with fail
    refine (awake_any _ HN.out).mono ?_; rintro e w1 ⟨rfl, q1⟩
    have Q1 := Lib.hid q1; clear q1
    go_wp2_with fail
    refine (HD.out _ (HN.out.on Q1.out)).mono ?_; rintro e w2 ⟨rfl, q2⟩
    have Q2 := Lib.hid (bTrans Q1.out q2); clear q2 Q1
    go_wp2_with fail
    go_ret
    exact ⟨rfl, bAlloc Q2.out _⟩
  · obtain ⟨hR, hv⟩ := again_enc x r hx hr h0
    have hI := imm_in x r hx hr h0
    have hval : decV x r = instV r (rdN (kindZ (bareN r)) x) (rs1N (kindZ (bareN r)) x) (rs2N (kindZ (bareN r)) x) (immZ (kindZ (bareN r)) (shiftZ (bareN r)) x) := by unfold decV; rw [if_neg h0]
    rw [hval, show decE r = 0 by unfold decE; rw [if_neg h0]] at hd
    have he := fun w hn => encode_any r (rdN (kindZ (bareN r)) x) (rs1N (kindZ (bareN r)) x) (rs2N (kindZ (bareN r)) x) (immZ (kindZ (bareN r)) (shiftZ (bareN r)) x) w hn hI
    rw [hv] at he
    unfold encE at he
    rw [if_pos hR] at he
    clear hR hv hI hval hr hn
    generalize ((rdN (kindZ (bareN r)) x : Nat) : Int) = v1 at hd he
    generalize ((rs1N (kindZ (bareN r)) x : Nat) : Int) = v2 at hd he
    generalize ((rs2N (kindZ (bareN r)) x : Nat) : Int) = v3 at hd he
    generalize immZ (kindZ (bareN r)) (shiftZ (bareN r)) x = v4 at hd he
    unfold instV at hd he
    have HD := Lib.hid hd
    have HE := Lib.hid he
    clear hd he
    go_enter Tryd.func7, Tryd.ntmps7
    go_wp2_with fail
    refine (awake_any _ HN.out).mono ?_; rintro e w1 ⟨rfl, q1⟩
    have Q1 := Lib.hid q1; clear q1
    go_wp2_with fail
    refine (HD.out _ (HN.out.on Q1.out)).mono ?_; rintro e w2 ⟨rfl, q2⟩
    have Q2 := Lib.hid (bTrans Q1.out q2); clear q2 Q1
    go_wp2_with fail
    refine (HE.out _ (HN.out.on (bAlloc Q2.out _))).mono ?_; rintro e w3 ⟨rfl, q3⟩
    have Q3 := Lib.hid (bTrans (bAlloc Q2.out _) q3); clear q3 Q2
    go_wp2_with fail
    go_ret
    exact ⟨rfl, Q3.out⟩

theorem enc_inj (a0 a1 a2 a3 a4 b0 b1 b2 b3 b4 : Int) (ha : rightB a0 a1 a2 a3 a4 = true) (hb : rightB b0 b1 b2 b3 b4 = true) (h : encR a0 a1 a2 a3 a4 = encR b0 b1 b2 b3 b4) :
    a0 = b0 ∧ a1 = b1 ∧ a2 = b2 ∧ a3 = b3 ∧ a4 = b4 := by
  obtain ⟨⟨x1, x2⟩, h1, h2⟩ := back_dec a0 a1 a2 a3 a4 ha
  obtain ⟨⟨y1, y2⟩, h3, h4⟩ := back_dec b0 b1 b2 b3 b4 hb
  rw [h] at h1 h2
  have ho : a0.toNat = b0.toNat := by
    rcases h1 with ⟨k, -⟩ | ⟨k1, k2, k3⟩
    · omega
    · rcases h3 with ⟨k, -⟩ | ⟨m1, m2, m3⟩
      · omega
      · exact decP_one _ _ _ k1 k2 m1 m2 k3 m3
  rw [ho, h4] at h2
  unfold instV at h2
  simp only [Value.agg.injEq, Array.mk.injEq, List.cons.injEq, Value.int.injEq, true_and, and_true] at h2
  obtain ⟨e0, e1, e2, e3, e4⟩ := h2
  exact ⟨e0.symm, e1.symm, e2.symm, e3.symm, e4.symm⟩
set_option maxHeartbeats 1000000 in
theorem IsaUnlike_walk (a0 a1 a2 a3 a4 b0 b1 b2 b3 b4 : Int) (w : World) (hn : NT w) (ha : I64 a4) (hb : I64 b4) :
    Calls Tryd.prog 8 #[instV a0 a1 a2 a3 a4, instV b0 b1 b2 b3 b4] w fun e w' => e = .returned (.bool true) ∧ Below w.heap.size w w' := by
  have HN := Lib.hid hn
  have he := fun w hn => encode_any a0 a1 a2 a3 a4 w hn ha
  have hf := fun w hn => encode_any b0 b1 b2 b3 b4 w hn hb
  have hinj := enc_inj a0 a1 a2 a3 a4 b0 b1 b2 b3 b4
  have hsame : (a0 = b0 ∧ a1 = b1 ∧ a2 = b2 ∧ a3 = b3 ∧ a4 = b4) → encR a0 a1 a2 a3 a4 = encR b0 b1 b2 b3 b4 := by rintro ⟨rfl, rfl, rfl, rfl, rfl⟩; rfl
  have hE : encE a0 a1 a2 a3 a4 = if rightB a0 a1 a2 a3 a4 = true then 0 else 1 := rfl
  have hF : encE b0 b1 b2 b3 b4 = if rightB b0 b1 b2 b3 b4 = true then 0 else 1 := rfl
  generalize encR a0 a1 a2 a3 a4 = v at he hinj hsame
  generalize encR b0 b1 b2 b3 b4 = u at hf hinj hsame
  generalize encE a0 a1 a2 a3 a4 = E at he hE
  generalize encE b0 b1 b2 b3 b4 = F at hf hF
  generalize rightB a0 a1 a2 a3 a4 = A at hinj hE
  generalize rightB b0 b1 b2 b3 b4 = B at hinj hF
  unfold instV at he hf ⊢
  have HE := Lib.hid he
  have HF := Lib.hid hf
  have HI := Lib.hid hinj
  have HS := Lib.hid hsame
  clear he hf ha hb hn hinj hsame
  go_enter Tryd.func8, Tryd.ntmps8
  go_wp2_with fail
  refine (awake_any _ (HN.out.on (bAlloc (bAlloc (Below.refl _ _) _) _))).mono ?_; rintro e w1 ⟨rfl, q1⟩
  have X1 := Lib.hid ((((Box5.new w (.int .i64 a0) (.int .i64 a1) (.int .i64 a2) (.int .i64 a3) (.int .i64 a4) 25).on (bAlloc (Below.refl _ _) (.cells #[.int .i64 b0, .int .i64 b1, .int .i64 b2, .int .i64 b3, .int .i64 b4] 25))).on q1))
  have Y1 := Lib.hid ((Box5.new (w.alloc (.cells #[.int .i64 a0, .int .i64 a1, .int .i64 a2, .int .i64 a3, .int .i64 a4] 25)) (.int .i64 b0) (.int .i64 b1) (.int .i64 b2) (.int .i64 b3) (.int .i64 b4) 25).on q1)
  have Q1 := Lib.hid (bTrans (bAlloc (bAlloc (Below.refl _ _) _) _) q1); clear q1
  have hsz : (w.alloc (.cells #[.int .i64 a0, .int .i64 a1, .int .i64 a2, .int .i64 a3, .int .i64 a4] 25)).heap.size = w.heap.size + 1 := size_alloc _ _
  rw [hsz] at Y1
  clear hsz
  obtain ⟨-, c0, c1, c2, c3, c4⟩ := X1.out
  go_wp2_with fail
  refine (HE.out _ (HN.out.on Q1.out)).mono ?_; rintro e w2 ⟨rfl, q2⟩
  have X2 := Lib.hid (X1.out.on q2); have Y2 := Lib.hid (Y1.out.on q2)
  have Q2 := Lib.hid (bTrans Q1.out q2); clear q2 Q1 c0 c1 c2 c3 c4 X1 Y1
  obtain ⟨-, c0, c1, c2, c3, c4⟩ := Y2.out
  go_wp2_with fail
  all_goals
    refine (HF.out _ (HN.out.on Q2.out)).mono ?_; rintro e w3 ⟨rfl, q3⟩
    have X3 := Lib.hid (X2.out.on q3); have Y3 := Lib.hid (Y2.out.on q3)
    have Q3 := Lib.hid (bTrans Q2.out q3); clear q3 Q2 c0 c1 c2 c3 c4 X2 Y2
    obtain ⟨-, c0, c1, c2, c3, c4⟩ := X3.out
    obtain ⟨-, d0, d1, d2, d3, d4⟩ := Y3.out
    cases A
    · simp only [Bool.false_eq_true, if_false] at hE
      subst hE
      go_wp2_with fail
      all_goals (go_ret; exact ⟨rfl, Q3.out⟩)
    cases B
    · simp only [Bool.false_eq_true, if_false, if_true] at hE hF
      subst hE
      subst hF
      go_wp2_with fail
      all_goals (go_ret; exact ⟨rfl, Q3.out⟩)
    simp only [if_true] at hE hF
    subst hE
    subst hF
    have HI2 := Lib.hid (HI.out rfl rfl)
    clear HI
    go_wp2_with fail
    all_goals go_ret
    all_goals refine ⟨ret_bool ?_, Q3.out⟩
    all_goals first
      | (rw [beq_iff_eq]; have := HS.out ⟨by assumption, by assumption, by assumption, by assumption, by assumption⟩; omega)
      | (rw [Bool.not_eq_true', beq_eq_false_iff_ne]; intro hvu; obtain ⟨e0, e1, e2, e3, e4⟩ := HI2.out (by omega); contradiction)
end Go.Proofs.YtaiphmmdallhcaaDoor
