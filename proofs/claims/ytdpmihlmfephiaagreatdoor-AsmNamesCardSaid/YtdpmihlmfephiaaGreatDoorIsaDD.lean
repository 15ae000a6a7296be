/- The contract of the document's Decode; the law of every number. -/
import Derived.Test.YtdpmihlmfephiaaGreatDoorIsaZ
import Derived.Test.YtdpmihlmfephiaaGreatDoorIsaJ
namespace Go.Proofs.YtdpmihlmfephiaaGreatDoor
set_option linter.unusedVariables false
set_option maxRecDepth 100000
set_option linter.unusedSimpArgs false
open Go.Joins Go.ChangeShapes Go.WideShapes Go.ChangeAt Go.RowKit

/-- an operation's own number stands in a number just if the instruction that is read there has that number -/
theorem hit_iff (op : Int) (h1 : 1 ≤ op) (h2 : op ≤ 82) (x : Nat) (hx : x < 4294967296) :
    hitB (bareN op) x = (rightB op (rdN (kindZ (bareN op)) x) (rs1N (kindZ (bareN op)) x) (rs2N (kindZ (bareN op)) x) (immZ (kindZ (bareN op)) (shiftZ (bareN op)) x) &&
      (encR op (rdN (kindZ (bareN op)) x) (rs1N (kindZ (bareN op)) x) (rs2N (kindZ (bareN op)) x) (immZ (kindZ (bareN op)) (shiftZ (bareN op)) x) == x)) := by
  have ho : ((op.toNat : Nat) : Int) = op := Int.toNat_of_nonneg (by omega)
  rw [Bool.eq_iff_iff, Bool.and_eq_true, beq_iff_eq]
  constructor
  · intro h
    have := again_enc x op.toNat hx (.inr ⟨by omega, by omega, by rw [ho]; exact h⟩) (by omega)
    rw [ho] at this
    exact this
  · rintro ⟨hr, he⟩
    obtain ⟨-, hd, -⟩ := back_dec _ _ _ _ _ hr
    rw [he] at hd
    rcases hd with ⟨h, -⟩ | ⟨-, -, h⟩
    · omega
    · rw [ho] at h; exact h
theorem imm_any_in (k s : Int) (x : Nat) (hx : x < 4294967296) : I64 (immZ k s x) := by
  have hs : ∀ y m : Nat, y < 4294967296 → m ≤ 32 → I64 (sgI y m) := by
    intro y m hy hm
    unfold sgI I64
    have hp : (2 : Int) ^ m ≤ 4294967296 := by
      rw [pow_cast]
      have : 2 ^ m ≤ 2 ^ 32 := Nat.pow_le_pow_right (by decide) hm
      have h2 : (2 : Nat) ^ 32 = 4294967296 := by decide
      omega
    have hp0 : (0 : Int) < 2 ^ m := Int.pow_pos (by decide)
    split <;> omega
  unfold immZ
  split
  · split
    · unfold I64; omega
    · split
      · unfold I64; omega
      · exact hs _ _ (by omega) (by decide)
  · split
    · exact hs _ _ (by omega) (by decide)
    · split
      · exact hs _ _ (by omega) (by decide)
      · split
        · exact hs _ _ (by omega) (by decide)
        · split
          · exact hs _ _ (by omega) (by decide)
          · unfold I64; omega
theorem pats (k : Int) (x : Nat) (hk : k = 1 ∨ k = 2 ∨ k = 3 ∨ k = 4 ∨ k = 5 ∨ k = 6 ∨ k = 7 ∨ k = 8 ∨ k = 9 ∨ k = 10) :
    (rgZ k = 7 ∧ rdN k x = x / 128 % 32 ∧ rs1N k x = x / 32768 % 32 ∧ rs2N k x = x / 1048576 % 32) ∨ (rgZ k = 3 ∧ rdN k x = x / 128 % 32 ∧ rs1N k x = x / 32768 % 32 ∧ rs2N k x = 0) ∨
    (rgZ k = 6 ∧ rdN k x = 0 ∧ rs1N k x = x / 32768 % 32 ∧ rs2N k x = x / 1048576 % 32) ∨ (rgZ k = 1 ∧ rdN k x = x / 128 % 32 ∧ rs1N k x = 0 ∧ rs2N k x = 0) ∨ (rgZ k = 0 ∧ rdN k x = 0 ∧ rs1N k x = 0 ∧ rs2N k x = 0) := by
  rcases hk with rfl | rfl | rfl | rfl | rfl | rfl | rfl | rfl | rfl | rfl
  · exact .inl ⟨by decide, rdN_1 x, rs1N_1 x, rs2N_1 x⟩
  · exact .inr (.inl ⟨by decide, rdN_2 x, rs1N_2 x, rs2N_2 x⟩)
  · exact .inr (.inl ⟨by decide, rdN_3 x, rs1N_3 x, rs2N_3 x⟩)
  · exact .inr (.inr (.inl ⟨by decide, rdN_4 x, rs1N_4 x, rs2N_4 x⟩))
  · exact .inr (.inr (.inl ⟨by decide, rdN_5 x, rs1N_5 x, rs2N_5 x⟩))
  · exact .inr (.inr (.inr (.inl ⟨by decide, rdN_6 x, rs1N_6 x, rs2N_6 x⟩)))
  · exact .inr (.inr (.inr (.inl ⟨by decide, rdN_7 x, rs1N_7 x, rs2N_7 x⟩)))
  · exact .inr (.inl ⟨by decide, rdN_8 x, rs1N_8 x, rs2N_8 x⟩)
  · exact .inr (.inr (.inr (.inr (⟨by decide, rdN_9 x, rs1N_9 x, rs2N_9 x⟩))))
  · exact .inr (.inr (.inl ⟨by decide, rdN_10 x, rs1N_10 x, rs2N_10 x⟩))
theorem kind_in (op : Int) (h1 : 1 ≤ op) (h2 : op ≤ 82) : (fun k : Int => k = 1 ∨ k = 2 ∨ k = 3 ∨ k = 4 ∨ k = 5 ∨ k = 6 ∨ k = 7 ∨ k = 8 ∨ k = 9 ∨ k = 10) (kindZ (bareN op)) ∧ (shiftZ (bareN op) = 0 ∨ (kindZ (bareN op) = 2 ∧ (shiftZ (bareN op) = 5 ∨ shiftZ (bareN op) = 6))) := by
  refine classes (P := fun b => (fun k : Int => k = 1 ∨ k = 2 ∨ k = 3 ∨ k = 4 ∨ k = 5 ∨ k = 6 ∨ k = 7 ∨ k = 8 ∨ k = 9 ∨ k = 10) (kindZ b) ∧ (shiftZ b = 0 ∨ (kindZ b = 2 ∧ (shiftZ b = 5 ∨ shiftZ b = 6)))) op h1 h2 ?_ ?_ ?_ ?_ ?_ ?_ ?_ ?_ ?_ ?_ ?_
  all_goals
    intro b _ hk hs
    intros
    simp only []
    omega
set_option maxHeartbeats 4000000 in
theorem rdecode_any (x r : Nat) (hx : x < 4294967296) (hr : DecP x r) (w : World) :
    Calls Tryz.prog 55 #[.int .u32 (x : Int)] w fun e w' => e = .returned (.tuple #[decV x r, .int .i64 (decE r)]) ∧ Below w.heap.size w w' := by
  obtain ⟨V, hV⟩ : ∃ V, decV x r = V := ⟨_, rfl⟩
  obtain ⟨Z, hZ⟩ : ∃ Z, decE r = Z := ⟨_, rfl⟩
  rw [hV, hZ]
  have HV := Lib.hid hV
  have HZ := Lib.hid hZ
  have HR := Lib.hid hr
  have HX := Lib.hid hx
  clear hV hZ hr
  go_enter Tryz.func55, Tryz.ntmps55
  go_wp2_with fail
  go_loopw [4] (fun i wr => ∃ j : Nat, 1 ≤ j ∧ j ≤ 83 ∧ i = .int .i64 j ∧ Hid (∀ k : Nat, 1 ≤ k → k < j → hitB (bareN (k : Int)) x = false) ∧ Hid (Below w.heap.size w wr) ∧ Hid (Box5 wr w.heap.size (.int .i64 0) (.int .i64 0) (.int .i64 0) (.int .i64 0) (.int .i64 0))) (fun i _ => 83 - (intOf i).toNat)
  case atStart => exact ⟨1, by omega, by omega, rfl, Lib.hid fun k hk1 hk2 => absurd hk2 (by omega), Lib.hid (bAlloc (Below.refl _ _) _), Lib.hid (Box5.new w (.int .i64 0) (.int .i64 0) (.int .i64 0) (.int .i64 0) (.int .i64 0) 23)⟩
  case round =>
    obtain ⟨j, hj1, hj2, rfl, HK, HB, BX⟩ := hrel
    by_cases h : j ≤ 82
    · have hd : decide ((j : Int) ≤ 82) = true := decide_eq_true (by omega)
      have hO := fun w => of_any (j : Int) w
      unfold opV at hO
      have ht := tab_at (j : Int) (by omega) (by omega)
      unfold tabChk at ht
      simp only [Bool.and_eq_true, beq_iff_eq, decide_eq_true_eq] at ht
      obtain ⟨⟨⟨⟨⟨⟨⟨⟨⟨⟨-, -⟩, -⟩, t4⟩, -⟩, -⟩, -⟩, -⟩, -⟩, -⟩, -⟩ := ht
      have hkO : (opR (j : Int)).2.1 = kindZ (bareN (j : Int)) := by rw [kind_same]; unfold kindO; rw [if_pos ⟨by omega, by omega⟩]
      rw [hkO, show (opR (j : Int)).2.2.2.2.2 = shiftZ (bareN (j : Int)) from t4] at hO
      have hki := kind_in (j : Int) (by omega) (by omega)
      have hit := hit_iff (j : Int) (by omega) (by omega) x hx
      have hII := imm_any_in (kindZ (bareN (j : Int))) (shiftZ (bareN (j : Int))) x hx
      have hval : r = j → V = instV (j : Int) (rdN (kindZ (bareN (j : Int))) x) (rs1N (kindZ (bareN (j : Int))) x) (rs2N (kindZ (bareN (j : Int))) x) (immZ (kindZ (bareN (j : Int))) (shiftZ (bareN (j : Int))) x) := by
        intro e
        rw [← HV.out]
        unfold decV
        rw [if_neg (by omega), e]
      have hrj : hitB (bareN (j : Int)) x = true → r = j := by
        intro hh
        rcases HR.out with ⟨h0, h1⟩ | ⟨h1, h2, h3⟩
        · have := h1 (j - 1) (by omega)
          rw [show (((j - 1 : Nat) : Int) + 1) = (j : Int) by omega, hh] at this
          exact absurd this (by decide)
        · exact decP_one x r j h1 h2 (by omega) (by omega) h3 hh
      have hnx : hitB (bareN (j : Int)) x = false → ∀ k : Nat, 1 ≤ k → k < j + 1 → hitB (bareN (k : Int)) x = false := by
        intro hh k hk1 hk2
        by_cases hkj : k = j
        · subst hkj; exact hh
        · exact HK.out k hk1 (by omega)
      generalize hitB (bareN (j : Int)) x = Hh at hit hrj hnx
      generalize shiftZ (bareN (j : Int)) = sh at hO hki hit hval hII
      generalize kindZ (bareN (j : Int)) = k at hO hki hit hval hII
      obtain ⟨hk10, hcls⟩ := hki
      have hI := fun (s : List UInt8) (c f3 f7 : Int) w => rimm_any s k c f3 f7 sh x w hx hcls
      have hP := pats k x hk10
      have hG := fun w => registers_any k w
      generalize immZ k sh x = n at hI hit hval hII
      generalize opN (j : Int) = s at hO
      generalize (opR (j : Int)).2.2.1 = c at hO
      generalize (opR (j : Int)).2.2.2.1 = f3 at hO
      generalize (opR (j : Int)).2.2.2.2.1 = f7 at hO
      have hI := fun w => hI s c f3 f7 w
      unfold operV at hI
      have HO := Lib.hid hO
      have HI := Lib.hid hI
      have HVAL := Lib.hid hval
      have HRJ := Lib.hid hrj
      have HNX := Lib.hid hnx
      clear hO hI hval hrj hnx hcls hk10 HK t4 hkO HV
      rcases hP with ⟨p, p1, p2, p3⟩ | ⟨p, p1, p2, p3⟩ | ⟨p, p1, p2, p3⟩ | ⟨p, p1, p2, p3⟩ | ⟨p, p1, p2, p3⟩
      · rw [p] at hG
        rw [p1, p2, p3] at hit
        have hval2 := HVAL.out
        rw [p1, p2, p3] at hval2
        have hv1 := fun w => rfield_any x 7 5 w hx (by decide)
        rw [show x / 2 ^ 7 % 2 ^ 5 = x / 128 % 32 by rfl] at hv1
        have hv2 := fun w => rfield_any x 15 5 w hx (by decide)
        rw [show x / 2 ^ 15 % 2 ^ 5 = x / 32768 % 32 by rfl] at hv2
        have hv3 := fun w => rfield_any x 20 5 w hx (by decide)
        rw [show x / 2 ^ 20 % 2 ^ 5 = x / 1048576 % 32 by rfl] at hv3
        obtain ⟨v1, ev1⟩ : ∃ v, x / 128 % 32 = v := ⟨_, rfl⟩
        rw [ev1] at hv1 hit hval2
        have lv1 : v1 < 32 := by omega
        have FV1 := Lib.hid hv1
        clear ev1 hv1
        obtain ⟨v2, ev2⟩ : ∃ v, x / 32768 % 32 = v := ⟨_, rfl⟩
        rw [ev2] at hv2 hit hval2
        have lv2 : v2 < 32 := by omega
        have FV2 := Lib.hid hv2
        clear ev2 hv2
        obtain ⟨v3, ev3⟩ : ∃ v, x / 1048576 % 32 = v := ⟨_, rfl⟩
        rw [ev3] at hv3 hit hval2
        have lv3 : v3 < 32 := by omega
        have FV3 := Lib.hid hv3
        clear ev3 hv3
        have hE := fun w => rencode_any (j : Int) ((v1 : Nat) : Int) ((v2 : Nat) : Int) ((v3 : Nat) : Int) n w
        have hcase : (encE (j : Int) ((v1 : Nat) : Int) ((v2 : Nat) : Int) ((v3 : Nat) : Int) n = 0 ∧ encR (j : Int) ((v1 : Nat) : Int) ((v2 : Nat) : Int) ((v3 : Nat) : Int) n = x ∧ Hh = true) ∨ (encE (j : Int) ((v1 : Nat) : Int) ((v2 : Nat) : Int) ((v3 : Nat) : Int) n = 1 ∧ Hh = false) ∨ (encE (j : Int) ((v1 : Nat) : Int) ((v2 : Nat) : Int) ((v3 : Nat) : Int) n = 0 ∧ encR (j : Int) ((v1 : Nat) : Int) ((v2 : Nat) : Int) ((v3 : Nat) : Int) n ≠ x ∧ Hh = false) := by
          unfold encE
          by_cases hT : rightB (j : Int) ((v1 : Nat) : Int) ((v2 : Nat) : Int) ((v3 : Nat) : Int) n = true
          · rw [hT, Bool.true_and] at hit
            by_cases hq : encR (j : Int) ((v1 : Nat) : Int) ((v2 : Nat) : Int) ((v3 : Nat) : Int) n = x
            · exact .inl ⟨if_pos hT, hq, by rw [hit, beq_iff_eq]; exact hq⟩
            · exact .inr (.inr ⟨if_pos hT, hq, by rw [hit]; exact beq_false_of_ne hq⟩)
          · rw [Bool.not_eq_true] at hT
            rw [hT, Bool.false_and] at hit
            exact .inr (.inl ⟨if_neg (by rw [hT]; decide), hit⟩)
        generalize encE (j : Int) ((v1 : Nat) : Int) ((v2 : Nat) : Int) ((v3 : Nat) : Int) n = E at hE hcase
        generalize encR (j : Int) ((v1 : Nat) : Int) ((v2 : Nat) : Int) ((v3 : Nat) : Int) n = u at hE hcase
        unfold instV at hE
        have HG := Lib.hid hG
        have HE := Lib.hid hE
        have HC := Lib.hid hcase
        have HV2 := Lib.hid hval2
        clear hG hE hcase hit hval2 p p1 p2 p3 HVAL hII
        go_wp2_with (go_at_call 56; refine (many_any _).mono ?_; rintro e w' ⟨rfl, rfl⟩)
        refine (HO.out _).mono ?_; rintro e w1 ⟨rfl, q1⟩
        have Q1 := Lib.hid (bTrans HB.out q1); have X1 := Lib.hid (BX.out.on q1); clear q1 HB BX
        go_wp2_with (go_at_call 59; refine (HG.out _).mono ?_; rintro e w' ⟨rfl, rfl⟩)
        refine (HI.out _).mono ?_; rintro e w2 ⟨rfl, q2⟩
        have Q2 := Lib.hid (bTrans (bAlloc Q1.out _) q2); have X2 := Lib.hid (X1.out.on (bTrans (bAlloc (Below.refl _ _) _) q2)); clear q2 Q1 X1
        go_wp2_with fail
        refine (FV1.out _).mono ?_; rintro e w' ⟨rfl, rfl⟩
        go_wp2_with fail
        refine (FV2.out _).mono ?_; rintro e w' ⟨rfl, rfl⟩
        go_wp2_with fail
        refine (FV3.out _).mono ?_; rintro e w' ⟨rfl, rfl⟩
        go_wp2_with fail
        refine (HE.out _).mono ?_; rintro e w3 ⟨rfl, q3⟩
        have Y := Lib.hid (Box5.new w2 (.int .i64 (j : Int)) (.int .i64 ((v1 : Nat) : Int)) (.int .i64 ((v2 : Nat) : Int)) (.int .i64 ((v3 : Nat) : Int)) (.int .i64 n) 23)
        have X3 := Lib.hid (X2.out.on (bAlloc (Below.refl _ _) (.cells #[.int .i64 (j : Int), .int .i64 ((v1 : Nat) : Int), .int .i64 ((v2 : Nat) : Int), .int .i64 ((v3 : Nat) : Int), .int .i64 n] 23)))
        have Q3 := Lib.hid (bAlloc Q2.out (.cells #[.int .i64 (j : Int), .int .i64 ((v1 : Nat) : Int), .int .i64 ((v2 : Nat) : Int), .int .i64 ((v3 : Nat) : Int), .int .i64 n] 23))
        clear Q2 X2
        have Y4 := Lib.hid (Y.out.on q3); have X4 := Lib.hid (X3.out.on q3); have Q4 := Lib.hid (bTrans Q3.out q3); clear q3 Y X3 Q3
        obtain ⟨-, c0, c1, c2, c3, c4⟩ := Y4.out
        rcases HC.out with ⟨e1, e2, e3⟩ | ⟨e1, e3⟩ | ⟨e1, e2, e3⟩
        · subst e1
          subst e2
          have hrj := HRJ.out e3
          have hv2 := HV2.out hrj
          have hz2 : Z = 0 := by rw [← HZ.out]; unfold decE; rw [if_neg (by omega)]
          obtain ⟨fz, d0, d1, d2, d3, d4⟩ := X4.out
          have f0 := fz 0; have f1 := fz 1; have f2 := fz 2; have f3 := fz 3; have f4 := fz 4
          have HV3 := Lib.hid hv2
          have HZ3 := Lib.hid hz2
          clear hv2 hz2 hrj e3
          go_wp2_with fail
          obtain ⟨z, z0, z1, z2, z3, z4⟩ := X4.out.set (.int .i64 (j : Int)) (.int .i64 ((v1 : Nat) : Int)) (.int .i64 ((v2 : Nat) : Int)) (.int .i64 ((v3 : Nat) : Int)) (.int .i64 n)
          refine bodyPost_ret (v := .tuple #[V, .int .i64 Z]) ?_ rfl ⟨rfl, ?_⟩
          · rw [HV3.out, HZ3.out]
            simp [results, Tryz.results55, go_sem, instV, z0, z1, z2, z3, z4]
          · exact Below.setCell (Below.setCell (Below.setCell (Below.setCell (Below.setCell Q4.out (Nat.le_refl _) _) (Nat.le_refl _) _) (Nat.le_refl _) _) (Nat.le_refl _) _) (Nat.le_refl _) _
        · subst e1
          go_wp2_with fail
          go_round
          case rel => exact ⟨j + 1, by omega, by omega, by go_num, Lib.hid (HNX.out e3), Q4, X4⟩
          case measure => simp [intOf]; omega
        · subst e1
          have hne : ((u : Int) == (x : Int)) = false := beq_false_of_ne (by omega)
          clear e2
          go_wp2_with fail
          go_round
          case rel => exact ⟨j + 1, by omega, by omega, by go_num, Lib.hid (HNX.out e3), Q4, X4⟩
          case measure => simp [intOf]; omega
      · rw [p] at hG
        rw [p1, p2, p3] at hit
        have hval2 := HVAL.out
        rw [p1, p2, p3] at hval2
        have hv1 := fun w => rfield_any x 7 5 w hx (by decide)
        rw [show x / 2 ^ 7 % 2 ^ 5 = x / 128 % 32 by rfl] at hv1
        have hv2 := fun w => rfield_any x 15 5 w hx (by decide)
        rw [show x / 2 ^ 15 % 2 ^ 5 = x / 32768 % 32 by rfl] at hv2
        obtain ⟨v1, ev1⟩ : ∃ v, x / 128 % 32 = v := ⟨_, rfl⟩
        rw [ev1] at hv1 hit hval2
        have lv1 : v1 < 32 := by omega
        have FV1 := Lib.hid hv1
        clear ev1 hv1
        obtain ⟨v2, ev2⟩ : ∃ v, x / 32768 % 32 = v := ⟨_, rfl⟩
        rw [ev2] at hv2 hit hval2
        have lv2 : v2 < 32 := by omega
        have FV2 := Lib.hid hv2
        clear ev2 hv2
        have hE := fun w => rencode_any (j : Int) ((v1 : Nat) : Int) ((v2 : Nat) : Int) ((0 : Nat) : Int) n w
        have hcase : (encE (j : Int) ((v1 : Nat) : Int) ((v2 : Nat) : Int) ((0 : Nat) : Int) n = 0 ∧ encR (j : Int) ((v1 : Nat) : Int) ((v2 : Nat) : Int) ((0 : Nat) : Int) n = x ∧ Hh = true) ∨ (encE (j : Int) ((v1 : Nat) : Int) ((v2 : Nat) : Int) ((0 : Nat) : Int) n = 1 ∧ Hh = false) ∨ (encE (j : Int) ((v1 : Nat) : Int) ((v2 : Nat) : Int) ((0 : Nat) : Int) n = 0 ∧ encR (j : Int) ((v1 : Nat) : Int) ((v2 : Nat) : Int) ((0 : Nat) : Int) n ≠ x ∧ Hh = false) := by
          unfold encE
          by_cases hT : rightB (j : Int) ((v1 : Nat) : Int) ((v2 : Nat) : Int) ((0 : Nat) : Int) n = true
          · rw [hT, Bool.true_and] at hit
            by_cases hq : encR (j : Int) ((v1 : Nat) : Int) ((v2 : Nat) : Int) ((0 : Nat) : Int) n = x
            · exact .inl ⟨if_pos hT, hq, by rw [hit, beq_iff_eq]; exact hq⟩
            · exact .inr (.inr ⟨if_pos hT, hq, by rw [hit]; exact beq_false_of_ne hq⟩)
          · rw [Bool.not_eq_true] at hT
            rw [hT, Bool.false_and] at hit
            exact .inr (.inl ⟨if_neg (by rw [hT]; decide), hit⟩)
        generalize encE (j : Int) ((v1 : Nat) : Int) ((v2 : Nat) : Int) ((0 : Nat) : Int) n = E at hE hcase
        generalize encR (j : Int) ((v1 : Nat) : Int) ((v2 : Nat) : Int) ((0 : Nat) : Int) n = u at hE hcase
        unfold instV at hE
        simp only [Int.ofNat_zero, Int.natCast_zero, show ((0 : Nat) : Int) = 0 from rfl] at hE hval2
        have HG := Lib.hid hG
        have HE := Lib.hid hE
        have HC := Lib.hid hcase
        have HV2 := Lib.hid hval2
        clear hG hE hcase hit hval2 p p1 p2 p3 HVAL hII
        go_wp2_with (go_at_call 56; refine (many_any _).mono ?_; rintro e w' ⟨rfl, rfl⟩)
        refine (HO.out _).mono ?_; rintro e w1 ⟨rfl, q1⟩
        have Q1 := Lib.hid (bTrans HB.out q1); have X1 := Lib.hid (BX.out.on q1); clear q1 HB BX
        go_wp2_with (go_at_call 59; refine (HG.out _).mono ?_; rintro e w' ⟨rfl, rfl⟩)
        refine (HI.out _).mono ?_; rintro e w2 ⟨rfl, q2⟩
        have Q2 := Lib.hid (bTrans (bAlloc Q1.out _) q2); have X2 := Lib.hid (X1.out.on (bTrans (bAlloc (Below.refl _ _) _) q2)); clear q2 Q1 X1
        go_wp2_with fail
        refine (FV1.out _).mono ?_; rintro e w' ⟨rfl, rfl⟩
        go_wp2_with fail
        refine (FV2.out _).mono ?_; rintro e w' ⟨rfl, rfl⟩
        go_wp2_with fail
        refine (HE.out _).mono ?_; rintro e w3 ⟨rfl, q3⟩
        have Y := Lib.hid (Box5.new w2 (.int .i64 (j : Int)) (.int .i64 ((v1 : Nat) : Int)) (.int .i64 ((v2 : Nat) : Int)) (.int .i64 0) (.int .i64 n) 23)
        have X3 := Lib.hid (X2.out.on (bAlloc (Below.refl _ _) (.cells #[.int .i64 (j : Int), .int .i64 ((v1 : Nat) : Int), .int .i64 ((v2 : Nat) : Int), .int .i64 0, .int .i64 n] 23)))
        have Q3 := Lib.hid (bAlloc Q2.out (.cells #[.int .i64 (j : Int), .int .i64 ((v1 : Nat) : Int), .int .i64 ((v2 : Nat) : Int), .int .i64 0, .int .i64 n] 23))
        clear Q2 X2
        have Y4 := Lib.hid (Y.out.on q3); have X4 := Lib.hid (X3.out.on q3); have Q4 := Lib.hid (bTrans Q3.out q3); clear q3 Y X3 Q3
        obtain ⟨-, c0, c1, c2, c3, c4⟩ := Y4.out
        rcases HC.out with ⟨e1, e2, e3⟩ | ⟨e1, e3⟩ | ⟨e1, e2, e3⟩
        · subst e1
          subst e2
          have hrj := HRJ.out e3
          have hv2 := HV2.out hrj
          have hz2 : Z = 0 := by rw [← HZ.out]; unfold decE; rw [if_neg (by omega)]
          obtain ⟨fz, d0, d1, d2, d3, d4⟩ := X4.out
          have f0 := fz 0; have f1 := fz 1; have f2 := fz 2; have f3 := fz 3; have f4 := fz 4
          have HV3 := Lib.hid hv2
          have HZ3 := Lib.hid hz2
          clear hv2 hz2 hrj e3
          go_wp2_with fail
          obtain ⟨z, z0, z1, z2, z3, z4⟩ := X4.out.set (.int .i64 (j : Int)) (.int .i64 ((v1 : Nat) : Int)) (.int .i64 ((v2 : Nat) : Int)) (.int .i64 0) (.int .i64 n)
          refine bodyPost_ret (v := .tuple #[V, .int .i64 Z]) ?_ rfl ⟨rfl, ?_⟩
          · rw [HV3.out, HZ3.out]
            simp [results, Tryz.results55, go_sem, instV, z0, z1, z2, z3, z4]
          · exact Below.setCell (Below.setCell (Below.setCell (Below.setCell (Below.setCell Q4.out (Nat.le_refl _) _) (Nat.le_refl _) _) (Nat.le_refl _) _) (Nat.le_refl _) _) (Nat.le_refl _) _
        · subst e1
          go_wp2_with fail
          go_round
          case rel => exact ⟨j + 1, by omega, by omega, by go_num, Lib.hid (HNX.out e3), Q4, X4⟩
          case measure => simp [intOf]; omega
        · subst e1
          have hne : ((u : Int) == (x : Int)) = false := beq_false_of_ne (by omega)
          clear e2
          go_wp2_with fail
          go_round
          case rel => exact ⟨j + 1, by omega, by omega, by go_num, Lib.hid (HNX.out e3), Q4, X4⟩
          case measure => simp [intOf]; omega
      · rw [p] at hG
        rw [p1, p2, p3] at hit
        have hval2 := HVAL.out
        rw [p1, p2, p3] at hval2
        have hv2 := fun w => rfield_any x 15 5 w hx (by decide)
        rw [show x / 2 ^ 15 % 2 ^ 5 = x / 32768 % 32 by rfl] at hv2
        have hv3 := fun w => rfield_any x 20 5 w hx (by decide)
        rw [show x / 2 ^ 20 % 2 ^ 5 = x / 1048576 % 32 by rfl] at hv3
        obtain ⟨v2, ev2⟩ : ∃ v, x / 32768 % 32 = v := ⟨_, rfl⟩
        rw [ev2] at hv2 hit hval2
        have lv2 : v2 < 32 := by omega
        have FV2 := Lib.hid hv2
        clear ev2 hv2
        obtain ⟨v3, ev3⟩ : ∃ v, x / 1048576 % 32 = v := ⟨_, rfl⟩
        rw [ev3] at hv3 hit hval2
        have lv3 : v3 < 32 := by omega
        have FV3 := Lib.hid hv3
        clear ev3 hv3
        have hE := fun w => rencode_any (j : Int) ((0 : Nat) : Int) ((v2 : Nat) : Int) ((v3 : Nat) : Int) n w
        have hcase : (encE (j : Int) ((0 : Nat) : Int) ((v2 : Nat) : Int) ((v3 : Nat) : Int) n = 0 ∧ encR (j : Int) ((0 : Nat) : Int) ((v2 : Nat) : Int) ((v3 : Nat) : Int) n = x ∧ Hh = true) ∨ (encE (j : Int) ((0 : Nat) : Int) ((v2 : Nat) : Int) ((v3 : Nat) : Int) n = 1 ∧ Hh = false) ∨ (encE (j : Int) ((0 : Nat) : Int) ((v2 : Nat) : Int) ((v3 : Nat) : Int) n = 0 ∧ encR (j : Int) ((0 : Nat) : Int) ((v2 : Nat) : Int) ((v3 : Nat) : Int) n ≠ x ∧ Hh = false) := by
          unfold encE
          by_cases hT : rightB (j : Int) ((0 : Nat) : Int) ((v2 : Nat) : Int) ((v3 : Nat) : Int) n = true
          · rw [hT, Bool.true_and] at hit
            by_cases hq : encR (j : Int) ((0 : Nat) : Int) ((v2 : Nat) : Int) ((v3 : Nat) : Int) n = x
            · exact .inl ⟨if_pos hT, hq, by rw [hit, beq_iff_eq]; exact hq⟩
            · exact .inr (.inr ⟨if_pos hT, hq, by rw [hit]; exact beq_false_of_ne hq⟩)
          · rw [Bool.not_eq_true] at hT
            rw [hT, Bool.false_and] at hit
            exact .inr (.inl ⟨if_neg (by rw [hT]; decide), hit⟩)
        generalize encE (j : Int) ((0 : Nat) : Int) ((v2 : Nat) : Int) ((v3 : Nat) : Int) n = E at hE hcase
        generalize encR (j : Int) ((0 : Nat) : Int) ((v2 : Nat) : Int) ((v3 : Nat) : Int) n = u at hE hcase
        unfold instV at hE
        simp only [Int.ofNat_zero, Int.natCast_zero, show ((0 : Nat) : Int) = 0 from rfl] at hE hval2
        have HG := Lib.hid hG
        have HE := Lib.hid hE
        have HC := Lib.hid hcase
        have HV2 := Lib.hid hval2
        clear hG hE hcase hit hval2 p p1 p2 p3 HVAL hII
        go_wp2_with (go_at_call 56; refine (many_any _).mono ?_; rintro e w' ⟨rfl, rfl⟩)
        refine (HO.out _).mono ?_; rintro e w1 ⟨rfl, q1⟩
        have Q1 := Lib.hid (bTrans HB.out q1); have X1 := Lib.hid (BX.out.on q1); clear q1 HB BX
        go_wp2_with (go_at_call 59; refine (HG.out _).mono ?_; rintro e w' ⟨rfl, rfl⟩)
        refine (HI.out _).mono ?_; rintro e w2 ⟨rfl, q2⟩
        have Q2 := Lib.hid (bTrans (bAlloc Q1.out _) q2); have X2 := Lib.hid (X1.out.on (bTrans (bAlloc (Below.refl _ _) _) q2)); clear q2 Q1 X1
        go_wp2_with fail
        refine (FV2.out _).mono ?_; rintro e w' ⟨rfl, rfl⟩
        go_wp2_with fail
        refine (FV3.out _).mono ?_; rintro e w' ⟨rfl, rfl⟩
        go_wp2_with fail
        refine (HE.out _).mono ?_; rintro e w3 ⟨rfl, q3⟩
        have Y := Lib.hid (Box5.new w2 (.int .i64 (j : Int)) (.int .i64 0) (.int .i64 ((v2 : Nat) : Int)) (.int .i64 ((v3 : Nat) : Int)) (.int .i64 n) 23)
        have X3 := Lib.hid (X2.out.on (bAlloc (Below.refl _ _) (.cells #[.int .i64 (j : Int), .int .i64 0, .int .i64 ((v2 : Nat) : Int), .int .i64 ((v3 : Nat) : Int), .int .i64 n] 23)))
        have Q3 := Lib.hid (bAlloc Q2.out (.cells #[.int .i64 (j : Int), .int .i64 0, .int .i64 ((v2 : Nat) : Int), .int .i64 ((v3 : Nat) : Int), .int .i64 n] 23))
        clear Q2 X2
        have Y4 := Lib.hid (Y.out.on q3); have X4 := Lib.hid (X3.out.on q3); have Q4 := Lib.hid (bTrans Q3.out q3); clear q3 Y X3 Q3
        obtain ⟨-, c0, c1, c2, c3, c4⟩ := Y4.out
        rcases HC.out with ⟨e1, e2, e3⟩ | ⟨e1, e3⟩ | ⟨e1, e2, e3⟩
        · subst e1
          subst e2
          have hrj := HRJ.out e3
          have hv2 := HV2.out hrj
          have hz2 : Z = 0 := by rw [← HZ.out]; unfold decE; rw [if_neg (by omega)]
          obtain ⟨fz, d0, d1, d2, d3, d4⟩ := X4.out
          have f0 := fz 0; have f1 := fz 1; have f2 := fz 2; have f3 := fz 3; have f4 := fz 4
          have HV3 := Lib.hid hv2
          have HZ3 := Lib.hid hz2
          clear hv2 hz2 hrj e3
          go_wp2_with fail
          obtain ⟨z, z0, z1, z2, z3, z4⟩ := X4.out.set (.int .i64 (j : Int)) (.int .i64 0) (.int .i64 ((v2 : Nat) : Int)) (.int .i64 ((v3 : Nat) : Int)) (.int .i64 n)
          refine bodyPost_ret (v := .tuple #[V, .int .i64 Z]) ?_ rfl ⟨rfl, ?_⟩
          · rw [HV3.out, HZ3.out]
            simp [results, Tryz.results55, go_sem, instV, z0, z1, z2, z3, z4]
          · exact Below.setCell (Below.setCell (Below.setCell (Below.setCell (Below.setCell Q4.out (Nat.le_refl _) _) (Nat.le_refl _) _) (Nat.le_refl _) _) (Nat.le_refl _) _) (Nat.le_refl _) _
        · subst e1
          go_wp2_with fail
          go_round
          case rel => exact ⟨j + 1, by omega, by omega, by go_num, Lib.hid (HNX.out e3), Q4, X4⟩
          case measure => simp [intOf]; omega
        · subst e1
          have hne : ((u : Int) == (x : Int)) = false := beq_false_of_ne (by omega)
          clear e2
          go_wp2_with fail
          go_round
          case rel => exact ⟨j + 1, by omega, by omega, by go_num, Lib.hid (HNX.out e3), Q4, X4⟩
          case measure => simp [intOf]; omega
      · rw [p] at hG
        rw [p1, p2, p3] at hit
        have hval2 := HVAL.out
        rw [p1, p2, p3] at hval2
        have hv1 := fun w => rfield_any x 7 5 w hx (by decide)
        rw [show x / 2 ^ 7 % 2 ^ 5 = x / 128 % 32 by rfl] at hv1
        obtain ⟨v1, ev1⟩ : ∃ v, x / 128 % 32 = v := ⟨_, rfl⟩
        rw [ev1] at hv1 hit hval2
        have lv1 : v1 < 32 := by omega
        have FV1 := Lib.hid hv1
        clear ev1 hv1
        have hE := fun w => rencode_any (j : Int) ((v1 : Nat) : Int) ((0 : Nat) : Int) ((0 : Nat) : Int) n w
        have hcase : (encE (j : Int) ((v1 : Nat) : Int) ((0 : Nat) : Int) ((0 : Nat) : Int) n = 0 ∧ encR (j : Int) ((v1 : Nat) : Int) ((0 : Nat) : Int) ((0 : Nat) : Int) n = x ∧ Hh = true) ∨ (encE (j : Int) ((v1 : Nat) : Int) ((0 : Nat) : Int) ((0 : Nat) : Int) n = 1 ∧ Hh = false) ∨ (encE (j : Int) ((v1 : Nat) : Int) ((0 : Nat) : Int) ((0 : Nat) : Int) n = 0 ∧ encR (j : Int) ((v1 : Nat) : Int) ((0 : Nat) : Int) ((0 : Nat) : Int) n ≠ x ∧ Hh = false) := by
          unfold encE
          by_cases hT : rightB (j : Int) ((v1 : Nat) : Int) ((0 : Nat) : Int) ((0 : Nat) : Int) n = true
          · rw [hT, Bool.true_and] at hit
            by_cases hq : encR (j : Int) ((v1 : Nat) : Int) ((0 : Nat) : Int) ((0 : Nat) : Int) n = x
            · exact .inl ⟨if_pos hT, hq, by rw [hit, beq_iff_eq]; exact hq⟩
            · exact .inr (.inr ⟨if_pos hT, hq, by rw [hit]; exact beq_false_of_ne hq⟩)
          · rw [Bool.not_eq_true] at hT
            rw [hT, Bool.false_and] at hit
            exact .inr (.inl ⟨if_neg (by rw [hT]; decide), hit⟩)
        generalize encE (j : Int) ((v1 : Nat) : Int) ((0 : Nat) : Int) ((0 : Nat) : Int) n = E at hE hcase
        generalize encR (j : Int) ((v1 : Nat) : Int) ((0 : Nat) : Int) ((0 : Nat) : Int) n = u at hE hcase
        unfold instV at hE
        simp only [Int.ofNat_zero, Int.natCast_zero, show ((0 : Nat) : Int) = 0 from rfl] at hE hval2
        have HG := Lib.hid hG
        have HE := Lib.hid hE
        have HC := Lib.hid hcase
        have HV2 := Lib.hid hval2
        clear hG hE hcase hit hval2 p p1 p2 p3 HVAL hII
        go_wp2_with (go_at_call 56; refine (many_any _).mono ?_; rintro e w' ⟨rfl, rfl⟩)
        refine (HO.out _).mono ?_; rintro e w1 ⟨rfl, q1⟩
        have Q1 := Lib.hid (bTrans HB.out q1); have X1 := Lib.hid (BX.out.on q1); clear q1 HB BX
        go_wp2_with (go_at_call 59; refine (HG.out _).mono ?_; rintro e w' ⟨rfl, rfl⟩)
        refine (HI.out _).mono ?_; rintro e w2 ⟨rfl, q2⟩
        have Q2 := Lib.hid (bTrans (bAlloc Q1.out _) q2); have X2 := Lib.hid (X1.out.on (bTrans (bAlloc (Below.refl _ _) _) q2)); clear q2 Q1 X1
        go_wp2_with fail
        refine (FV1.out _).mono ?_; rintro e w' ⟨rfl, rfl⟩
        go_wp2_with fail
        refine (HE.out _).mono ?_; rintro e w3 ⟨rfl, q3⟩
        have Y := Lib.hid (Box5.new w2 (.int .i64 (j : Int)) (.int .i64 ((v1 : Nat) : Int)) (.int .i64 0) (.int .i64 0) (.int .i64 n) 23)
        have X3 := Lib.hid (X2.out.on (bAlloc (Below.refl _ _) (.cells #[.int .i64 (j : Int), .int .i64 ((v1 : Nat) : Int), .int .i64 0, .int .i64 0, .int .i64 n] 23)))
        have Q3 := Lib.hid (bAlloc Q2.out (.cells #[.int .i64 (j : Int), .int .i64 ((v1 : Nat) : Int), .int .i64 0, .int .i64 0, .int .i64 n] 23))
        clear Q2 X2
        have Y4 := Lib.hid (Y.out.on q3); have X4 := Lib.hid (X3.out.on q3); have Q4 := Lib.hid (bTrans Q3.out q3); clear q3 Y X3 Q3
        obtain ⟨-, c0, c1, c2, c3, c4⟩ := Y4.out
        rcases HC.out with ⟨e1, e2, e3⟩ | ⟨e1, e3⟩ | ⟨e1, e2, e3⟩
        · subst e1
          subst e2
          have hrj := HRJ.out e3
          have hv2 := HV2.out hrj
          have hz2 : Z = 0 := by rw [← HZ.out]; unfold decE; rw [if_neg (by omega)]
          obtain ⟨fz, d0, d1, d2, d3, d4⟩ := X4.out
          have f0 := fz 0; have f1 := fz 1; have f2 := fz 2; have f3 := fz 3; have f4 := fz 4
          have HV3 := Lib.hid hv2
          have HZ3 := Lib.hid hz2
          clear hv2 hz2 hrj e3
          go_wp2_with fail
          obtain ⟨z, z0, z1, z2, z3, z4⟩ := X4.out.set (.int .i64 (j : Int)) (.int .i64 ((v1 : Nat) : Int)) (.int .i64 0) (.int .i64 0) (.int .i64 n)
          refine bodyPost_ret (v := .tuple #[V, .int .i64 Z]) ?_ rfl ⟨rfl, ?_⟩
          · rw [HV3.out, HZ3.out]
            simp [results, Tryz.results55, go_sem, instV, z0, z1, z2, z3, z4]
          · exact Below.setCell (Below.setCell (Below.setCell (Below.setCell (Below.setCell Q4.out (Nat.le_refl _) _) (Nat.le_refl _) _) (Nat.le_refl _) _) (Nat.le_refl _) _) (Nat.le_refl _) _
        · subst e1
          go_wp2_with fail
          go_round
          case rel => exact ⟨j + 1, by omega, by omega, by go_num, Lib.hid (HNX.out e3), Q4, X4⟩
          case measure => simp [intOf]; omega
        · subst e1
          have hne : ((u : Int) == (x : Int)) = false := beq_false_of_ne (by omega)
          clear e2
          go_wp2_with fail
          go_round
          case rel => exact ⟨j + 1, by omega, by omega, by go_num, Lib.hid (HNX.out e3), Q4, X4⟩
          case measure => simp [intOf]; omega
      · rw [p] at hG
        rw [p1, p2, p3] at hit
        have hval2 := HVAL.out
        rw [p1, p2, p3] at hval2
        have hE := fun w => rencode_any (j : Int) ((0 : Nat) : Int) ((0 : Nat) : Int) ((0 : Nat) : Int) n w
        have hcase : (encE (j : Int) ((0 : Nat) : Int) ((0 : Nat) : Int) ((0 : Nat) : Int) n = 0 ∧ encR (j : Int) ((0 : Nat) : Int) ((0 : Nat) : Int) ((0 : Nat) : Int) n = x ∧ Hh = true) ∨ (encE (j : Int) ((0 : Nat) : Int) ((0 : Nat) : Int) ((0 : Nat) : Int) n = 1 ∧ Hh = false) ∨ (encE (j : Int) ((0 : Nat) : Int) ((0 : Nat) : Int) ((0 : Nat) : Int) n = 0 ∧ encR (j : Int) ((0 : Nat) : Int) ((0 : Nat) : Int) ((0 : Nat) : Int) n ≠ x ∧ Hh = false) := by
          unfold encE
          by_cases hT : rightB (j : Int) ((0 : Nat) : Int) ((0 : Nat) : Int) ((0 : Nat) : Int) n = true
          · rw [hT, Bool.true_and] at hit
            by_cases hq : encR (j : Int) ((0 : Nat) : Int) ((0 : Nat) : Int) ((0 : Nat) : Int) n = x
            · exact .inl ⟨if_pos hT, hq, by rw [hit, beq_iff_eq]; exact hq⟩
            · exact .inr (.inr ⟨if_pos hT, hq, by rw [hit]; exact beq_false_of_ne hq⟩)
          · rw [Bool.not_eq_true] at hT
            rw [hT, Bool.false_and] at hit
            exact .inr (.inl ⟨if_neg (by rw [hT]; decide), hit⟩)
        generalize encE (j : Int) ((0 : Nat) : Int) ((0 : Nat) : Int) ((0 : Nat) : Int) n = E at hE hcase
        generalize encR (j : Int) ((0 : Nat) : Int) ((0 : Nat) : Int) ((0 : Nat) : Int) n = u at hE hcase
        unfold instV at hE
        simp only [Int.ofNat_zero, Int.natCast_zero, show ((0 : Nat) : Int) = 0 from rfl] at hE hval2
        have HG := Lib.hid hG
        have HE := Lib.hid hE
        have HC := Lib.hid hcase
        have HV2 := Lib.hid hval2
        clear hG hE hcase hit hval2 p p1 p2 p3 HVAL hII
        go_wp2_with (go_at_call 56; refine (many_any _).mono ?_; rintro e w' ⟨rfl, rfl⟩)
        refine (HO.out _).mono ?_; rintro e w1 ⟨rfl, q1⟩
        have Q1 := Lib.hid (bTrans HB.out q1); have X1 := Lib.hid (BX.out.on q1); clear q1 HB BX
        go_wp2_with (go_at_call 59; refine (HG.out _).mono ?_; rintro e w' ⟨rfl, rfl⟩)
        refine (HI.out _).mono ?_; rintro e w2 ⟨rfl, q2⟩
        have Q2 := Lib.hid (bTrans (bAlloc Q1.out _) q2); have X2 := Lib.hid (X1.out.on (bTrans (bAlloc (Below.refl _ _) _) q2)); clear q2 Q1 X1
        go_wp2_with fail
        refine (HE.out _).mono ?_; rintro e w3 ⟨rfl, q3⟩
        have Y := Lib.hid (Box5.new w2 (.int .i64 (j : Int)) (.int .i64 0) (.int .i64 0) (.int .i64 0) (.int .i64 n) 23)
        have X3 := Lib.hid (X2.out.on (bAlloc (Below.refl _ _) (.cells #[.int .i64 (j : Int), .int .i64 0, .int .i64 0, .int .i64 0, .int .i64 n] 23)))
        have Q3 := Lib.hid (bAlloc Q2.out (.cells #[.int .i64 (j : Int), .int .i64 0, .int .i64 0, .int .i64 0, .int .i64 n] 23))
        clear Q2 X2
        have Y4 := Lib.hid (Y.out.on q3); have X4 := Lib.hid (X3.out.on q3); have Q4 := Lib.hid (bTrans Q3.out q3); clear q3 Y X3 Q3
        obtain ⟨-, c0, c1, c2, c3, c4⟩ := Y4.out
        rcases HC.out with ⟨e1, e2, e3⟩ | ⟨e1, e3⟩ | ⟨e1, e2, e3⟩
        · subst e1
          subst e2
          have hrj := HRJ.out e3
          have hv2 := HV2.out hrj
          have hz2 : Z = 0 := by rw [← HZ.out]; unfold decE; rw [if_neg (by omega)]
          obtain ⟨fz, d0, d1, d2, d3, d4⟩ := X4.out
          have f0 := fz 0; have f1 := fz 1; have f2 := fz 2; have f3 := fz 3; have f4 := fz 4
          have HV3 := Lib.hid hv2
          have HZ3 := Lib.hid hz2
          clear hv2 hz2 hrj e3
          go_wp2_with fail
          obtain ⟨z, z0, z1, z2, z3, z4⟩ := X4.out.set (.int .i64 (j : Int)) (.int .i64 0) (.int .i64 0) (.int .i64 0) (.int .i64 n)
          refine bodyPost_ret (v := .tuple #[V, .int .i64 Z]) ?_ rfl ⟨rfl, ?_⟩
          · rw [HV3.out, HZ3.out]
            simp [results, Tryz.results55, go_sem, instV, z0, z1, z2, z3, z4]
          · exact Below.setCell (Below.setCell (Below.setCell (Below.setCell (Below.setCell Q4.out (Nat.le_refl _) _) (Nat.le_refl _) _) (Nat.le_refl _) _) (Nat.le_refl _) _) (Nat.le_refl _) _
        · subst e1
          go_wp2_with fail
          go_round
          case rel => exact ⟨j + 1, by omega, by omega, by go_num, Lib.hid (HNX.out e3), Q4, X4⟩
          case measure => simp [intOf]; omega
        · subst e1
          have hne : ((u : Int) == (x : Int)) = false := beq_false_of_ne (by omega)
          clear e2
          go_wp2_with fail
          go_round
          case rel => exact ⟨j + 1, by omega, by omega, by go_num, Lib.hid (HNX.out e3), Q4, X4⟩
          case measure => simp [intOf]; omega
    · have hd : decide ((j : Int) ≤ 82) = false := decide_eq_false (by omega)
      have e : r = 0 := by
        rcases HR.out with ⟨h0, h1⟩ | ⟨h1, h2, h3⟩
        · exact h0
        · have := HK.out r (by omega) (by omega)
          rw [h3] at this
          exact absurd this (by decide)
      obtain ⟨f, c0, c1, c2, c3, c4⟩ := BX.out
      have f0 := f 0; have f1 := f 1; have f2 := f 2; have f3 := f 3; have f4 := f 4
      have hv2 := HV.out
      have hz2 := HZ.out
      subst e
      unfold decV at hv2
      unfold decE at hz2
      rw [if_pos rfl] at hv2 hz2
      subst hv2
      subst hz2
      clear HV HZ HR HK
      go_wp2_with (go_at_call 56; refine (many_any _).mono ?_; rintro e w' ⟨rfl, rfl⟩)
      obtain ⟨z, z0, z1, z2, z3, z4⟩ := BX.out.set (.int .i64 0) (.int .i64 0) (.int .i64 0) (.int .i64 0) (.int .i64 0)
      refine bodyPost_ret (v := .tuple #[instV 0 0 0 0 0, .int .i64 40]) ?_ rfl ⟨rfl, ?_⟩
      · simp [results, Tryz.results55, go_sem, instV, z0, z1, z2, z3, z4]
      · exact Below.setCell (Below.setCell (Below.setCell (Below.setCell (Below.setCell HB.out (Nat.le_refl _) _) (Nat.le_refl _) _) (Nat.le_refl _) _) (Nat.le_refl _) _) (Nat.le_refl _) _
theorem decV_inst (x r : Nat) : ∃ a0 a1 a2 a3 a4, decV x r = instV a0 a1 a2 a3 a4 := by
  unfold decV
  split
  · exact ⟨0, 0, 0, 0, 0, rfl⟩
  · exact ⟨_, _, _, _, _, rfl⟩
end Go.Proofs.YtdpmihlmfephiaaGreatDoor
