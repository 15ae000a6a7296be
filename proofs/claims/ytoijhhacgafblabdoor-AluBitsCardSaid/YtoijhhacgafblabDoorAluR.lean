/- The walk of AluBits. -/
import Derived.Test.YtoijhhacgafblabDoorAluQ
namespace Go.Proofs.YtoijhhacgafblabDoor
set_option linter.unusedVariables false
set_option linter.unusedSimpArgs false
open Go.Joins Go.ChangeShapes Go.WideShapes Go.ChangeAt Go.RowKit

theorem bits_sum (a : Nat) : ∀ b : Nat, (a &&& b) + (a ||| b) = a + b ∧ (a ||| b) = (a ^^^ b) + (a &&& b) := by
  induction a using Nat.strongRecOn with
  | _ a ih =>
    intro b
    by_cases h : a = 0
    · subst h; simp
    · have hi := ih (a / 2) (by omega) (b / 2)
      have d1 : (a &&& b) / 2 = a / 2 &&& b / 2 := Nat.and_div_two
      have d2 : (a ||| b) / 2 = a / 2 ||| b / 2 := Nat.or_div_two
      have d3 : (a ^^^ b) / 2 = a / 2 ^^^ b / 2 := Nat.xor_div_two
      have m1 : (a &&& b) % 2 = 1 ↔ a % 2 = 1 ∧ b % 2 = 1 := Nat.and_mod_two_eq_one
      have m2 : (a ||| b) % 2 = 1 ↔ a % 2 = 1 ∨ b % 2 = 1 := Nat.or_mod_two_eq_one
      have m3 : (a ^^^ b) % 2 = 1 ↔ ¬(a % 2 = 1 ↔ b % 2 = 1) := Nat.xor_mod_two_eq_one
      rw [← d1, ← d2, ← d3] at hi
      clear d1 d2 d3 ih
      generalize (a &&& b) = x at *
      generalize (a ||| b) = y at *
      generalize (a ^^^ b) = z at *
      omega
theorem u64_xor_nat' (x y : Nat) (hx : x < 18446744073709551616) (hy : y < 18446744073709551616) : bits .xor .u64 (x : Int) (y : Int) = ((x ^^^ y : Nat) : Int) := by
  have e : (BitVec.ofInt 64 (x : Int) ^^^ BitVec.ofInt 64 (y : Int)).toNat = x ^^^ y := by
    rw [BitVec.toNat_xor, BitVec.toNat_ofInt, BitVec.toNat_ofInt]
    rw [show ((x : Int) % ((2 ^ 64 : Nat) : Int)).toNat = x by omega, show ((y : Int) % ((2 ^ 64 : Nat) : Int)).toNat = y by omega]
  unfold bits
  show IntKind.u64.wrap ((BitVec.ofInt 64 (x : Int) ^^^ BitVec.ofInt 64 (y : Int)).toNat : Int) = _
  have := Nat.xor_lt_two_pow (n := 64) (x := x) (y := y) hx hy
  rw [e, IntKind.wrap_u64]
  omega
theorem bits_facts (a b : Int) (ha : Inw a) (hb : Inw b) : bits .and .u64 a b + bits .or .u64 a b = a + b ∧ bits .or .u64 a b - bits .and .u64 a b = bits .xor .u64 a b ∧ bits .xor .u64 (bits .xor .u64 a b) b = a := by
  obtain ⟨x, rfl⟩ := Int.eq_ofNat_of_zero_le ha.1
  obtain ⟨y, rfl⟩ := Int.eq_ofNat_of_zero_le hb.1
  have hx : x < 18446744073709551616 := by have := ha.2; omega
  have hy : y < 18446744073709551616 := by have := hb.2; omega
  have h := bits_sum x y
  have hz : (x ^^^ y) < 18446744073709551616 := Nat.xor_lt_two_pow (n := 64) hx hy
  rw [u64_and_nat x y hx hy, u64_or_nat x y hx hy, u64_xor_nat' x y hx hy, u64_xor_nat' _ y hz hy, Nat.xor_assoc, Nat.xor_self, Nat.xor_zero]
  omega
set_option maxRecDepth 8000 in
theorem AluBits_walk (a b : Int) (w : World) (hn : NT w) (ha : Inw a) (hb : Inw b) :
    Calls Tryd.prog 9 #[.int .u64 a, .int .u64 b] w fun e w' => e = .returned (.bool true) ∧ Below w.heap.size w w' := by
  have Ia := Lib.hid ha; have Ib := Lib.hid hb
  obtain ⟨vand, hvand⟩ : ∃ x : Int, bits .and .u64 (a) (b) = x := ⟨_, rfl⟩
  have ivand : Inw vand := hvand ▸ bits_in _ _ _
  have Ivand := Lib.hid ivand
  clear ivand
  have Vvand := Lib.hid hvand
  clear hvand
  obtain ⟨vor, hvor⟩ : ∃ x : Int, bits .or .u64 (a) (b) = x := ⟨_, rfl⟩
  have ivor : Inw vor := hvor ▸ bits_in _ _ _
  have Ivor := Lib.hid ivor
  clear ivor
  have Vvor := Lib.hid hvor
  clear hvor
  obtain ⟨vxor, hvxor⟩ : ∃ x : Int, bits .xor .u64 (a) (b) = x := ⟨_, rfl⟩
  have ivxor : Inw vxor := hvxor ▸ bits_in _ _ _
  have Ivxor := Lib.hid ivxor
  clear ivxor
  have Vvxor := Lib.hid hvxor
  clear hvxor
  obtain ⟨vback, hvback⟩ : ∃ x : Int, bits .xor .u64 (vxor) (b) = x := ⟨_, rfl⟩
  have ivback : Inw vback := hvback ▸ bits_in _ _ _
  have Ivback := Lib.hid ivback
  clear ivback
  have Vvback := Lib.hid hvback
  clear hvback
  obtain ⟨vsum, hvsum⟩ : ∃ x : Int, IntKind.u64.wrap (vand + vor) = x := ⟨_, rfl⟩
  have ivsum : Inw vsum := hvsum ▸ wrap_u64_in _
  have Ivsum := Lib.hid ivsum
  clear ivsum
  have Vvsum := Lib.hid hvsum
  clear hvsum
  obtain ⟨vdiff, hvdiff⟩ : ∃ x : Int, IntKind.u64.wrap (vor - vand) = x := ⟨_, rfl⟩
  have ivdiff : Inw vdiff := hvdiff ▸ wrap_u64_in _
  have Ivdiff := Lib.hid ivdiff
  clear ivdiff
  have Vvdiff := Lib.hid hvdiff
  clear hvdiff
  obtain ⟨vadd, hvadd⟩ : ∃ x : Int, IntKind.u64.wrap (a + b) = x := ⟨_, rfl⟩
  have ivadd : Inw vadd := hvadd ▸ wrap_u64_in _
  have Ivadd := Lib.hid ivadd
  clear ivadd
  have Vvadd := Lib.hid hvadd
  clear hvadd
  have fact := bits_facts a b ha hb
  rw [Vvand.out, Vvor.out, Vvxor.out, Vvback.out] at fact
  have q1 : (vsum == vadd) = true := by rw [beq_iff_eq, ← Vvsum.out, ← Vvadd.out, fact.1]
  have q2 : (vdiff == vxor) = true := by rw [beq_iff_eq, ← Vvdiff.out, ← fact.2.1, IntKind.wrap_u64]; have := Ivxor.out; rw [← fact.2.1] at this; omega
  have q3 : (vback == a) = true := by rw [beq_iff_eq]; exact fact.2.2
  have HQ := Lib.hid (And.intro q1 (And.intro q2 q3))
  clear fact q1 q2 q3
  have HN := Lib.hid hn
  clear hn
  have Hha := Lib.hid ha
  have Hhb := Lib.hid hb
  clear ha hb
  go_enter Tryd.func9, Tryd.ntmps9
  go_wp2_with fail
  refine (awake_any _ HN.out).mono ?_; rintro e w1 ⟨rfl, hb⟩
  have B1 := Lib.hid hb
  clear hb
  go_wp2_with fail
  refine (of_and a b _ Ia.out Ib.out).mono ?_; rintro e w2 ⟨rfl, hb⟩; rw [Vvand.out]
  have B2 := Lib.hid (bTrans B1.out hb)
  clear hb B1
  go_wp2_with fail
  refine (of_or a b _ Ia.out Ib.out).mono ?_; rintro e w3 ⟨rfl, hb⟩; rw [Vvor.out]
  have B3 := Lib.hid (bTrans B2.out hb)
  clear hb B2
  go_wp2_with fail
  refine (of_xor a b _ Ia.out Ib.out).mono ?_; rintro e w4 ⟨rfl, hb⟩; rw [Vvxor.out]
  have B4 := Lib.hid (bTrans B3.out hb)
  clear hb B3
  go_wp2_with fail
  refine (of_xor vxor b _ Ivxor.out Ib.out).mono ?_; rintro e w5 ⟨rfl, hb⟩; rw [Vvback.out]
  have B5 := Lib.hid (bTrans B4.out hb)
  clear hb B4
  go_wp2_with fail
  refine (of_add vand vor _ Ivand.out Ivor.out).mono ?_; rintro e w6 ⟨rfl, hb⟩; rw [Vvsum.out]
  have B6 := Lib.hid (bTrans B5.out hb)
  clear hb B5
  go_wp2_with fail
  refine (of_sub vor vand _ Ivor.out Ivand.out).mono ?_; rintro e w7 ⟨rfl, hb⟩; rw [Vvdiff.out]
  have B7 := Lib.hid (bTrans B6.out hb)
  clear hb B6
  go_wp2_with fail
  refine (of_andi a b _ Ia.out Ib.out).mono ?_; rintro e w8 ⟨rfl, hb⟩; rw [Vvand.out]
  have B8 := Lib.hid (bTrans B7.out hb)
  clear hb B7
  go_wp2_with fail
  refine (of_ori a b _ Ia.out Ib.out).mono ?_; rintro e w9 ⟨rfl, hb⟩; rw [Vvor.out]
  have B9 := Lib.hid (bTrans B8.out hb)
  clear hb B8
  go_wp2_with fail
  refine (of_xori a b _ Ia.out Ib.out).mono ?_; rintro e w10 ⟨rfl, hb⟩; rw [Vvxor.out]
  have B10 := Lib.hid (bTrans B9.out hb)
  clear hb B9
  go_wp2_with fail
  refine (of_add a b _ Ia.out Ib.out).mono ?_; rintro e w11 ⟨rfl, hb⟩; rw [Vvadd.out]
  have B11 := Lib.hid (bTrans B10.out hb)
  clear hb B10
  obtain ⟨q1, q2, q3⟩ := HQ.out
  go_wp2_with fail
  go_ret
  exact ⟨rfl, B11.out⟩
end Go.Proofs.YtoijhhacgafblabDoor
