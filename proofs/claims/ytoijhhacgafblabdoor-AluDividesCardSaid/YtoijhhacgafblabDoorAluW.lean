/- The walk of AluDivides. -/
import Derived.Test.YtoijhhacgafblabDoorAluS
namespace Go.Proofs.YtoijhhacgafblabDoor
set_option linter.unusedVariables false
set_option linter.unusedSimpArgs false
open Go.Joins Go.ChangeShapes Go.WideShapes Go.ChangeAt Go.RowKit

theorem div_whole (a b : Int) (s : Bool) (h0 : 0 ≤ a) (h1 : a < 18446744073709551616) (h2 : 1 ≤ b) (h3 : b < 18446744073709551616) :
    (IntKind.u64.wrap (IntKind.u64.wrap (quotZ a b s * b) + restZ a b s) == a) = true := by
  rw [beq_iff_eq, IntKind.wrap_u64, IntKind.wrap_u64]
  cases s
  · rw [quot_f a b (by omega), rest_f a b (by omega)]
    have := Int.mul_ediv_add_emod a b
    rw [Int.mul_comm] at this
    omega
  · rw [quot_t a b (by omega), rest_t a b (by omega)]
    have e := Int.mul_ediv_add_emod (mag a true) (mag b true)
    have ea : mag a true = if negB a then 18446744073709551616 - a else a := by unfold mag negB; rw [Bool.true_and]
    have eb : mag b true = if negB b then 18446744073709551616 - b else b := by unfold mag negB; rw [Bool.true_and]
    generalize mag a true / mag b true = q at *
    generalize mag a true % mag b true = r at *
    rw [ea, eb] at e
    cases ha : negB a <;> cases hb : negB b <;> simp only [ha, hb, if_true, if_false, Bool.false_eq_true, bne_self_eq_false, Bool.true_bne, Bool.false_bne, Bool.not_false, IntKind.wrap_u64] at e ⊢
    · rw [Int.mul_comm] at e; omega
    · rw [Int.sub_mul] at e
      have e2 : (-q) % 18446744073709551616 * b = -(b * q) + 18446744073709551616 * (b * (-((-q) / 18446744073709551616))) := by
        have := Int.mul_ediv_add_emod (-q) 18446744073709551616
        rw [show (-q) % 18446744073709551616 = -q - 18446744073709551616 * ((-q) / 18446744073709551616) by omega, Int.sub_mul, Int.mul_neg, Int.mul_neg, Int.mul_comm b q, Int.neg_mul, Int.mul_assoc, Int.mul_comm b]
        omega
      rw [e2]; omega
    · have e2 : (-q) % 18446744073709551616 * b = -(b * q) + 18446744073709551616 * (b * (-((-q) / 18446744073709551616))) := by
        have := Int.mul_ediv_add_emod (-q) 18446744073709551616
        rw [show (-q) % 18446744073709551616 = -q - 18446744073709551616 * ((-q) / 18446744073709551616) by omega, Int.sub_mul, Int.mul_neg, Int.mul_neg, Int.mul_comm b q, Int.neg_mul, Int.mul_assoc, Int.mul_comm b]
        omega
      rw [e2]; omega
    · rw [Int.sub_mul, Int.mul_comm b q] at e; omega
theorem whole_any (a b : Int) (s : Bool) (ha : Inw a) (hb : Inw b) : IntKind.u64.wrap (IntKind.u64.wrap (quotZ a b s * b) + restZ a b s) = a := by
  by_cases h : b = 0
  · subst h
    have h0 := ha.1
    have h1 := ha.2
    rw [show restZ a 0 s = a by unfold restZ; rw [if_pos rfl], Int.mul_zero, IntKind.wrap_u64, IntKind.wrap_u64]
    omega
  · have h0 := hb.1
    exact beq_iff_eq.1 (div_whole a b s ha.1 ha.2 (by omega) hb.2)
theorem bits_low (a : Int) (h : 0 ≤ a) : bitsZ a 0 32 % 4294967296 = a % 4294967296 := by
  obtain ⟨n, rfl⟩ := Int.eq_ofNat_of_zero_le h
  unfold bitsZ bitsN
  rw [if_neg (by omega), show (0 : Int).toNat = 0 from rfl, show (32 : Int).toNat = 32 from rfl, Int.toNat_natCast, Nat.pow_zero, Nat.div_one, show (2 : Nat) ^ 32 = 4294967296 from rfl]
  omega
/-- of the lowest 32 bits: a quotient times what it was divided by, and what is left -/
theorem back32 (a b A B Q R : Int) (ha : 0 ≤ a) (hb : 0 ≤ b) (hQ : 0 ≤ Q) (hR : 0 ≤ R) (h : IntKind.u64.wrap (IntKind.u64.wrap (Q * B) + R) = A) (hA : A % 4294967296 = a % 4294967296) (hB : B % 4294967296 = b % 4294967296) :
    signZ (IntKind.u64.wrap (signZ (signZ (IntKind.u64.wrap (signZ (signZ Q 32) 32 * signZ b 32)) 32) 32 + signZ (signZ R 32) 32)) 32 = signZ (IntKind.u64.wrap (signZ a 32 + signZ 0 32)) 32 := by
  refine sign_congr _ _ (wrap_u64_in _).1 (wrap_u64_in _).1 ?_
  rw [wrap_low, wrap_low]
  have e1 : (signZ (signZ Q 32) 32 * signZ b 32) % 4294967296 = (Q * B) % 4294967296 := by
    rw [Int.mul_emod, sign_low _ (signZ_in _ _).1, sign_low _ hQ, sign_low _ hb, ← hB, ← Int.mul_emod]
  have e2 : signZ (signZ (IntKind.u64.wrap (signZ (signZ Q 32) 32 * signZ b 32)) 32) 32 % 4294967296 = (Q * B) % 4294967296 := by
    rw [sign_low _ (signZ_in _ _).1, sign_low _ (wrap_u64_in _).1, wrap_low, e1]
  have e3 : signZ (signZ R 32) 32 % 4294967296 = R % 4294967296 := by rw [sign_low _ (signZ_in _ _).1, sign_low _ hR]
  have e4 := sign_low a ha
  have e5 : signZ 0 32 % 4294967296 = 0 := by rw [sign_low 0 (by decide)]; rfl
  rw [IntKind.wrap_u64, IntKind.wrap_u64] at h
  generalize Q * B = p at *
  omega
set_option maxHeartbeats 2000000 in
set_option maxRecDepth 8000 in
theorem AluDivides_walk (a b : Int) (w : World) (hn : NT w) (ha : Inw a) (hb : Inw b) :
    Calls Tryd.prog 5 #[.int .u64 a, .int .u64 b] w fun e w' => e = .returned (.bool true) ∧ Below w.heap.size w w' := by
  have Ia := Lib.hid ha; have Ib := Lib.hid hb; have Iz : Hid (Inw (0 : Int)) := Lib.hid (by decide)
  obtain ⟨q1, hq1⟩ : ∃ x : Int, quotZ (a) (b) true = x := ⟨_, rfl⟩
  have iq1 : Inw q1 := hq1 ▸ quot_in _ _ _ ha.1 ha.2 hb.1 hb.2
  have Iq1 := Lib.hid iq1
  clear iq1
  have Vq1 := Lib.hid hq1
  clear hq1
  obtain ⟨r1, hr1⟩ : ∃ x : Int, restZ (a) (b) true = x := ⟨_, rfl⟩
  have ir1 : Inw r1 := hr1 ▸ rest_in _ _ _ ha.1 ha.2 hb.1 hb.2
  have Ir1 := Lib.hid ir1
  clear ir1
  have Vr1 := Lib.hid hr1
  clear hr1
  obtain ⟨q2, hq2⟩ : ∃ x : Int, quotZ (a) (b) false = x := ⟨_, rfl⟩
  have iq2 : Inw q2 := hq2 ▸ quot_in _ _ _ ha.1 ha.2 hb.1 hb.2
  have Iq2 := Lib.hid iq2
  clear iq2
  have Vq2 := Lib.hid hq2
  clear hq2
  obtain ⟨r2, hr2⟩ : ∃ x : Int, restZ (a) (b) false = x := ⟨_, rfl⟩
  have ir2 : Inw r2 := hr2 ▸ rest_in _ _ _ ha.1 ha.2 hb.1 hb.2
  have Ir2 := Lib.hid ir2
  clear ir2
  have Vr2 := Lib.hid hr2
  clear hr2
  obtain ⟨q3, hq3⟩ : ∃ x : Int, signZ (quotZ (signZ a 32) (signZ b 32) true) 32 = x := ⟨_, rfl⟩
  have iq3 : Inw q3 := hq3 ▸ signZ_in _ _
  have Iq3 := Lib.hid iq3
  clear iq3
  have Vq3 := Lib.hid hq3
  clear hq3
  obtain ⟨m3, hm3⟩ : ∃ x : Int, signZ (IntKind.u64.wrap ((signZ (q3) 32) * (signZ (b) 32))) 32 = x := ⟨_, rfl⟩
  have im3 : Inw m3 := hm3 ▸ signZ_in _ _
  have Im3 := Lib.hid im3
  clear im3
  have Vm3 := Lib.hid hm3
  clear hm3
  obtain ⟨r3, hr3⟩ : ∃ x : Int, signZ (restZ (signZ a 32) (signZ b 32) true) 32 = x := ⟨_, rfl⟩
  have ir3 : Inw r3 := hr3 ▸ signZ_in _ _
  have Ir3 := Lib.hid ir3
  clear ir3
  have Vr3 := Lib.hid hr3
  clear hr3
  obtain ⟨t3, ht3⟩ : ∃ x : Int, signZ (IntKind.u64.wrap ((signZ (m3) 32) + (signZ (r3) 32))) 32 = x := ⟨_, rfl⟩
  have it3 : Inw t3 := ht3 ▸ signZ_in _ _
  have It3 := Lib.hid it3
  clear it3
  have Vt3 := Lib.hid ht3
  clear ht3
  obtain ⟨q4, hq4⟩ : ∃ x : Int, signZ (quotZ (bitsZ a 0 32) (bitsZ b 0 32) false) 32 = x := ⟨_, rfl⟩
  have iq4 : Inw q4 := hq4 ▸ signZ_in _ _
  have Iq4 := Lib.hid iq4
  clear iq4
  have Vq4 := Lib.hid hq4
  clear hq4
  obtain ⟨m4, hm4⟩ : ∃ x : Int, signZ (IntKind.u64.wrap ((signZ (q4) 32) * (signZ (b) 32))) 32 = x := ⟨_, rfl⟩
  have im4 : Inw m4 := hm4 ▸ signZ_in _ _
  have Im4 := Lib.hid im4
  clear im4
  have Vm4 := Lib.hid hm4
  clear hm4
  obtain ⟨r4, hr4⟩ : ∃ x : Int, signZ (restZ (bitsZ a 0 32) (bitsZ b 0 32) false) 32 = x := ⟨_, rfl⟩
  have ir4 : Inw r4 := hr4 ▸ signZ_in _ _
  have Ir4 := Lib.hid ir4
  clear ir4
  have Vr4 := Lib.hid hr4
  clear hr4
  obtain ⟨t4, ht4⟩ : ∃ x : Int, signZ (IntKind.u64.wrap ((signZ (m4) 32) + (signZ (r4) 32))) 32 = x := ⟨_, rfl⟩
  have it4 : Inw t4 := ht4 ▸ signZ_in _ _
  have It4 := Lib.hid it4
  clear it4
  have Vt4 := Lib.hid ht4
  clear ht4
  obtain ⟨low, hlow⟩ : ∃ x : Int, signZ (IntKind.u64.wrap ((signZ (a) 32) + (signZ (0) 32))) 32 = x := ⟨_, rfl⟩
  have ilow : Inw low := hlow ▸ signZ_in _ _
  have Ilow := Lib.hid ilow
  clear ilow
  have Vlow := Lib.hid hlow
  clear hlow
  have e1 : (IntKind.u64.wrap (IntKind.u64.wrap (q1 * b) + r1) == a) = true := by rw [beq_iff_eq, ← Vq1.out, ← Vr1.out]; exact whole_any a b true ha hb
  have e2 : (IntKind.u64.wrap (IntKind.u64.wrap (q2 * b) + r2) == a) = true := by rw [beq_iff_eq, ← Vq2.out, ← Vr2.out]; exact whole_any a b false ha hb
  have e3 : (t3 == low) = true := by
    rw [beq_iff_eq, ← Vt3.out, ← Vm3.out, ← Vq3.out, ← Vr3.out, ← Vlow.out]
    exact back32 a b _ _ _ _ ha.1 hb.1 (quot_in _ _ _ (signZ_in _ _).1 (signZ_in _ _).2 (signZ_in _ _).1 (signZ_in _ _).2).1 (rest_in _ _ _ (signZ_in _ _).1 (signZ_in _ _).2 (signZ_in _ _).1 (signZ_in _ _).2).1 (whole_any _ _ true (signZ_in a 32) (signZ_in b 32)) (sign_low a ha.1) (sign_low b hb.1)
  have e4 : (t4 == low) = true := by
    rw [beq_iff_eq, ← Vt4.out, ← Vm4.out, ← Vq4.out, ← Vr4.out, ← Vlow.out]
    exact back32 a b _ _ _ _ ha.1 hb.1 (quot_in _ _ _ (bitsZ_in _ _ _).1 (bitsZ_in _ _ _).2 (bitsZ_in _ _ _).1 (bitsZ_in _ _ _).2).1 (rest_in _ _ _ (bitsZ_in _ _ _).1 (bitsZ_in _ _ _).2 (bitsZ_in _ _ _).1 (bitsZ_in _ _ _).2).1 (whole_any _ _ false (bitsZ_in a 0 32) (bitsZ_in b 0 32)) (bits_low a ha.1) (bits_low b hb.1)
  have EE := Lib.hid (And.intro e1 (And.intro e2 (And.intro e3 e4)))
  clear e1 e2 e3 e4
  have HN := Lib.hid hn
  clear hn
  have Hha := Lib.hid ha
  have Hhb := Lib.hid hb
  clear ha hb
  go_enter Tryd.func5, Tryd.ntmps5
  go_wp2_with fail
  refine (awake_any _ HN.out).mono ?_; rintro e w1 ⟨rfl, hb⟩
  have B1 := Lib.hid hb
  clear hb
  go_wp2_with fail
  refine (of_div a b _ Ia.out Ib.out).mono ?_; rintro e w2 ⟨rfl, hb⟩; rw [Vq1.out]
  have B2 := Lib.hid (bTrans B1.out hb)
  clear hb B1
  go_wp2_with fail
  refine (of_rem a b _ Ia.out Ib.out).mono ?_; rintro e w3 ⟨rfl, hb⟩; rw [Vr1.out]
  have B3 := Lib.hid (bTrans B2.out hb)
  clear hb B2
  go_wp2_with fail
  refine (of_divu a b _ Ia.out Ib.out).mono ?_; rintro e w4 ⟨rfl, hb⟩; rw [Vq2.out]
  have B4 := Lib.hid (bTrans B3.out hb)
  clear hb B3
  go_wp2_with fail
  refine (of_remu a b _ Ia.out Ib.out).mono ?_; rintro e w5 ⟨rfl, hb⟩; rw [Vr2.out]
  have B5 := Lib.hid (bTrans B4.out hb)
  clear hb B4
  go_wp2_with fail
  refine (of_divw a b _ Ia.out Ib.out).mono ?_; rintro e w6 ⟨rfl, hb⟩; rw [Vq3.out]
  have B6 := Lib.hid (bTrans B5.out hb)
  clear hb B5
  go_wp2_with fail
  refine (of_mulw q3 b _ Iq3.out Ib.out).mono ?_; rintro e w7 ⟨rfl, hb⟩; rw [Vm3.out]
  have B7 := Lib.hid (bTrans B6.out hb)
  clear hb B6
  go_wp2_with fail
  refine (of_remw a b _ Ia.out Ib.out).mono ?_; rintro e w8 ⟨rfl, hb⟩; rw [Vr3.out]
  have B8 := Lib.hid (bTrans B7.out hb)
  clear hb B7
  go_wp2_with fail
  refine (of_addw m3 r3 _ Im3.out Ir3.out).mono ?_; rintro e w9 ⟨rfl, hb⟩; rw [Vt3.out]
  have B9 := Lib.hid (bTrans B8.out hb)
  clear hb B8
  go_wp2_with fail
  refine (of_divuw a b _ Ia.out Ib.out).mono ?_; rintro e w10 ⟨rfl, hb⟩; rw [Vq4.out]
  have B10 := Lib.hid (bTrans B9.out hb)
  clear hb B9
  go_wp2_with fail
  refine (of_mulw q4 b _ Iq4.out Ib.out).mono ?_; rintro e w11 ⟨rfl, hb⟩; rw [Vm4.out]
  have B11 := Lib.hid (bTrans B10.out hb)
  clear hb B10
  go_wp2_with fail
  refine (of_remuw a b _ Ia.out Ib.out).mono ?_; rintro e w12 ⟨rfl, hb⟩; rw [Vr4.out]
  have B12 := Lib.hid (bTrans B11.out hb)
  clear hb B11
  go_wp2_with fail
  refine (of_addw m4 r4 _ Im4.out Ir4.out).mono ?_; rintro e w13 ⟨rfl, hb⟩; rw [Vt4.out]
  have B13 := Lib.hid (bTrans B12.out hb)
  clear hb B12
  go_wp2_with fail
  refine (of_addiw a 0 _ Ia.out Iz.out).mono ?_; rintro e w14 ⟨rfl, hb⟩; rw [Vlow.out]
  have B14 := Lib.hid (bTrans B13.out hb)
  clear hb B13
  obtain ⟨e1, e2, e3, e4⟩ := EE.out
  go_wp2_with fail
  go_ret
  exact ⟨rfl, B14.out⟩
end Go.Proofs.YtoijhhacgafblabDoor
