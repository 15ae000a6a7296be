/- The walk of AluShort. -/
import Derived.Test.YtoijhhacgafblabDoorAluQ
namespace Go.Proofs.YtoijhhacgafblabDoor
set_option linter.unusedVariables false
set_option linter.unusedSimpArgs false
open Go.Joins Go.ChangeShapes Go.WideShapes Go.ChangeAt Go.RowKit

/-- what has 32 bits hangs on the lowest 32 bits alone -/
theorem sgN32 (x y : Nat) (h : x % 4294967296 = y % 4294967296) : sgN x 32 = sgN y 32 := by
  unfold sgN
  rw [show (2 : Nat) ^ 32 = 4294967296 from rfl, h]
theorem sign_congr (x y : Int) (hx : 0 ≤ x) (hy : 0 ≤ y) (h : x % 4294967296 = y % 4294967296) : signZ x 32 = signZ y 32 := by
  unfold signZ
  rw [if_neg (by omega), if_neg (by omega), show (32 : Int).toNat = 32 from rfl, sgN32 x.toNat y.toNat (by omega)]
theorem sign_low (x : Int) (hx : 0 ≤ x) : signZ x 32 % 4294967296 = x % 4294967296 := by
  obtain ⟨n, rfl⟩ := Int.eq_ofNat_of_zero_le hx
  unfold signZ sgN
  rw [if_neg (by omega), show (32 : Int).toNat = 32 from rfl, Int.toNat_natCast, show (2 : Nat) ^ 32 = 4294967296 from rfl, show (2 : Nat) ^ (32 - 1) = 2147483648 from rfl]
  split <;> omega
theorem wrap_low (x : Int) : IntKind.u64.wrap x % 4294967296 = x % 4294967296 := by rw [IntKind.wrap_u64]; omega
theorem short_add (a b : Int) (ha : 0 ≤ a := by omega) (hb : 0 ≤ b := by omega) : signZ (IntKind.u64.wrap (signZ a 32 + signZ b 32)) 32 = signZ (IntKind.u64.wrap (a + b)) 32 :=
  sign_congr _ _ (wrap_u64_in _).1 (wrap_u64_in _).1 (by rw [wrap_low, wrap_low]; have := sign_low a ha; have := sign_low b hb; omega)
theorem short_sub (a b : Int) (ha : 0 ≤ a := by omega) (hb : 0 ≤ b := by omega) : signZ (IntKind.u64.wrap (signZ a 32 - signZ b 32)) 32 = signZ (IntKind.u64.wrap (a - b)) 32 :=
  sign_congr _ _ (wrap_u64_in _).1 (wrap_u64_in _).1 (by rw [wrap_low, wrap_low]; have := sign_low a ha; have := sign_low b hb; omega)
theorem short_mul (a b : Int) (ha : 0 ≤ a := by omega) (hb : 0 ≤ b := by omega) : signZ (IntKind.u64.wrap (signZ a 32 * signZ b 32)) 32 = signZ (IntKind.u64.wrap (a * b)) 32 :=
  sign_congr _ _ (wrap_u64_in _).1 (wrap_u64_in _).1 (by rw [wrap_low, wrap_low, Int.mul_emod, sign_low a ha, sign_low b hb, ← Int.mul_emod])
theorem short_shl (a b : Int) (ha : 0 ≤ a := by omega) (hb : 0 ≤ b := by omega) : signZ (IntKind.u64.wrap (signZ a 32 * 2 ^ (signZ b 32 % 32).toNat)) 32 = signZ (IntKind.u64.wrap (a * 2 ^ (b % 32 % 64).toNat)) 32 := by
  have h1 : signZ b 32 % 32 = b % 32 := by have := sign_low b hb; omega
  rw [h1, show b % 32 % 64 = b % 32 by omega]
  exact sign_congr _ _ (wrap_u64_in _).1 (wrap_u64_in _).1 (by rw [wrap_low, wrap_low, Int.mul_emod, sign_low a ha, ← Int.mul_emod])
set_option maxHeartbeats 2000000 in
set_option maxRecDepth 8000 in
theorem AluShort_walk (a b : Int) (w : World) (hn : NT w) (ha : Inw a) (hb : Inw b) :
    Calls Tryd.prog 6 #[.int .u64 a, .int .u64 b] w fun e w' => e = .returned (.bool true) ∧ Below w.heap.size w w' := by
  have Ia := Lib.hid ha; have Ib := Lib.hid hb
  obtain ⟨vaw, hvaw⟩ : ∃ x : Int, signZ (IntKind.u64.wrap ((signZ a 32) + (signZ b 32))) 32 = x := ⟨_, rfl⟩
  have Vvaw := Lib.hid hvaw
  clear hvaw
  obtain ⟨va, hva⟩ : ∃ x : Int, IntKind.u64.wrap (a + b) = x := ⟨_, rfl⟩
  have iva : Inw va := hva ▸ wrap_u64_in _
  have Iva := Lib.hid iva
  clear iva
  have Vva := Lib.hid hva
  clear hva
  obtain ⟨vsw, hvsw⟩ : ∃ x : Int, signZ (IntKind.u64.wrap ((signZ a 32) - (signZ b 32))) 32 = x := ⟨_, rfl⟩
  have Vvsw := Lib.hid hvsw
  clear hvsw
  obtain ⟨vs, hvs⟩ : ∃ x : Int, IntKind.u64.wrap (a - b) = x := ⟨_, rfl⟩
  have ivs : Inw vs := hvs ▸ wrap_u64_in _
  have Ivs := Lib.hid ivs
  clear ivs
  have Vvs := Lib.hid hvs
  clear hvs
  obtain ⟨vmw, hvmw⟩ : ∃ x : Int, signZ (IntKind.u64.wrap ((signZ a 32) * (signZ b 32))) 32 = x := ⟨_, rfl⟩
  have Vvmw := Lib.hid hvmw
  clear hvmw
  obtain ⟨vm, hvm⟩ : ∃ x : Int, IntKind.u64.wrap (a * b) = x := ⟨_, rfl⟩
  have ivm : Inw vm := hvm ▸ wrap_u64_in _
  have Ivm := Lib.hid ivm
  clear ivm
  have Vvm := Lib.hid hvm
  clear hvm
  obtain ⟨vlw, hvlw⟩ : ∃ x : Int, signZ (IntKind.u64.wrap ((signZ a 32) * 2 ^ ((signZ b 32) % 32).toNat)) 32 = x := ⟨_, rfl⟩
  have Vvlw := Lib.hid hvlw
  clear hvlw
  have Etm : Hid (b.tmod 32 = b % 32) := Lib.hid (Int.tmod_eq_emod_of_nonneg hb.1)
  have Ib32 : Inw (b % 32) := by have := ha; constructor <;> omega
  have Ibm := Lib.hid Ib32; clear Ib32
  obtain ⟨vl, hvl⟩ : ∃ x : Int, IntKind.u64.wrap (a * 2 ^ ((b % 32) % 64).toNat) = x := ⟨_, rfl⟩
  have ivl : Inw vl := hvl ▸ wrap_u64_in _
  have Ivl := Lib.hid ivl
  clear ivl
  have Vvl := Lib.hid hvl
  clear hvl
  have Eva : Hid (signZ va 32 = vaw) := Lib.hid (by rw [← Vva.out, ← Vvaw.out]; exact (short_add a b ha.1 hb.1).symm)
  have Evs : Hid (signZ vs 32 = vsw) := Lib.hid (by rw [← Vvs.out, ← Vvsw.out]; exact (short_sub a b ha.1 hb.1).symm)
  have Evm : Hid (signZ vm 32 = vmw) := Lib.hid (by rw [← Vvm.out, ← Vvmw.out]; exact (short_mul a b ha.1 hb.1).symm)
  have Evl : Hid (signZ vl 32 = vlw) := Lib.hid (by rw [← Vvl.out, ← Vvlw.out]; exact (short_shl a b ha.1 hb.1).symm)
  have HN := Lib.hid hn
  clear hn
  have Hha := Lib.hid ha
  have Hhb := Lib.hid hb
  clear ha hb
  go_enter Tryd.func6, Tryd.ntmps6
  go_wp2_with fail
  refine (awake_any _ HN.out).mono ?_; rintro e w1 ⟨rfl, hb⟩
  have B1 := Lib.hid hb
  clear hb
  go_wp2_with fail
  refine (of_addw a b _ Ia.out Ib.out).mono ?_; rintro e w2 ⟨rfl, hb⟩; rw [Vvaw.out]
  have B2 := Lib.hid (bTrans B1.out hb)
  clear hb B1
  go_wp2_with fail
  refine (of_add a b _ Ia.out Ib.out).mono ?_; rintro e w3 ⟨rfl, hb⟩; rw [Vva.out]
  have B3 := Lib.hid (bTrans B2.out hb)
  clear hb B2
  go_wp2_with fail
  refine (rsign_any va 32 _ Iva.out.1 Iva.out.2).mono ?_; rintro e w' ⟨rfl, rfl⟩; rw [Eva.out]
  go_wp2_with fail
  refine (of_subw a b _ Ia.out Ib.out).mono ?_; rintro e w4 ⟨rfl, hb⟩; rw [Vvsw.out]
  have B4 := Lib.hid (bTrans B3.out hb)
  clear hb B3
  go_wp2_with fail
  refine (of_sub a b _ Ia.out Ib.out).mono ?_; rintro e w5 ⟨rfl, hb⟩; rw [Vvs.out]
  have B5 := Lib.hid (bTrans B4.out hb)
  clear hb B4
  go_wp2_with fail
  refine (rsign_any vs 32 _ Ivs.out.1 Ivs.out.2).mono ?_; rintro e w' ⟨rfl, rfl⟩; rw [Evs.out]
  go_wp2_with fail
  refine (of_mulw a b _ Ia.out Ib.out).mono ?_; rintro e w6 ⟨rfl, hb⟩; rw [Vvmw.out]
  have B6 := Lib.hid (bTrans B5.out hb)
  clear hb B5
  go_wp2_with fail
  refine (of_mul a b _ Ia.out Ib.out).mono ?_; rintro e w7 ⟨rfl, hb⟩; rw [Vvm.out]
  have B7 := Lib.hid (bTrans B6.out hb)
  clear hb B6
  go_wp2_with fail
  refine (rsign_any vm 32 _ Ivm.out.1 Ivm.out.2).mono ?_; rintro e w' ⟨rfl, rfl⟩; rw [Evm.out]
  go_wp2_with fail
  refine (of_sllw a b _ Ia.out Ib.out).mono ?_; rintro e w8 ⟨rfl, hb⟩; rw [Vvlw.out]
  have B8 := Lib.hid (bTrans B7.out hb)
  clear hb B7
  go_wp2_with fail
  rw [Etm.out]
  refine (of_sll a (b % 32) _ Ia.out Ibm.out).mono ?_; rintro e w9 ⟨rfl, hb⟩; rw [Vvl.out]
  have B9 := Lib.hid (bTrans B8.out hb)
  clear hb B8
  go_wp2_with fail
  refine (rsign_any vl 32 _ Ivl.out.1 Ivl.out.2).mono ?_; rintro e w' ⟨rfl, rfl⟩; rw [Evl.out]
  go_wp2_with fail
  refine (of_addiw a b _ Ia.out Ib.out).mono ?_; rintro e w10 ⟨rfl, hb⟩; rw [Vvaw.out]
  have B10 := Lib.hid (bTrans B9.out hb)
  clear hb B9
  go_wp2_with fail
  refine (of_addw a b _ Ia.out Ib.out).mono ?_; rintro e w11 ⟨rfl, hb⟩; rw [Vvaw.out]
  have B11 := Lib.hid (bTrans B10.out hb)
  clear hb B10
  go_wp2_with fail
  go_ret
  exact ⟨rfl, B11.out⟩
end Go.Proofs.YtoijhhacgafblabDoor
