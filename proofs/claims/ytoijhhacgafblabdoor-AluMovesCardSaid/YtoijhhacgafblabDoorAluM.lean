/- The walk of AluMoves. -/
import Derived.Test.YtoijhhacgafblabDoorAluQ
namespace Go.Proofs.YtoijhhacgafblabDoor
set_option linter.unusedVariables false
set_option linter.unusedSimpArgs false
open Go.Joins Go.ChangeShapes Go.WideShapes Go.ChangeAt Go.RowKit

theorem moves_down (a : Int) (k : Nat) (ha : Inw a) (hk : k < 64) : IntKind.u64.wrap (a / 2 ^ k * 2 ^ k) = IntKind.u64.wrap (a - a.tmod (IntKind.u64.wrap (2 ^ k))) := by
  have h := Int.mul_ediv_add_emod a (2 ^ k)
  have e : IntKind.u64.wrap (2 ^ k) = 2 ^ k := by rw [shl_one k hk, pow_cast]
  rw [e, Int.tmod_eq_emod_of_nonneg ha.1, Int.mul_comm]
  congr 1
  omega
set_option maxHeartbeats 2000000 in
set_option maxRecDepth 8000 in
theorem AluMoves_walk (a n : Int) (w : World) (hn : NT w) (ha : Inw a) (hn' : Inw n) :
    Calls Tryd.prog 8 #[.int .u64 a, .int .u64 n] w fun e w' => e = .returned (.bool true) ∧ Below w.heap.size w w' := by
  have Ia := Lib.hid ha
  obtain ⟨k, hm, hk⟩ : ∃ k : Nat, n % 64 = (k : Int) ∧ k < 64 := ⟨(n % 64).toNat, by omega, by omega⟩
  have Im : Hid (Inw (k : Int)) := Lib.hid ⟨by omega, by omega⟩
  have HM : Hid (n.tmod 64 = (k : Int)) := Lib.hid (by rw [Int.tmod_eq_emod_of_nonneg hn'.1]; exact hm)
  have HK := Lib.hid hk
  clear hm hn' hk
  obtain ⟨vsr, hvsr⟩ : ∃ x : Int, a / 2 ^ ((k : Int) % 64).toNat = x := ⟨_, rfl⟩
  have ivsr : Inw vsr := hvsr ▸ div_in Ia.out _
  have Ivsr := Lib.hid ivsr
  clear ivsr
  have Vvsr := Lib.hid hvsr
  clear hvsr
  obtain ⟨vdown, hvdown⟩ : ∃ x : Int, IntKind.u64.wrap (vsr * 2 ^ ((k : Int) % 64).toNat) = x := ⟨_, rfl⟩
  have ivdown : Inw vdown := hvdown ▸ wrap_u64_in _
  have Ivdown := Lib.hid ivdown
  clear ivdown
  have Vvdown := Lib.hid hvdown
  clear hvdown
  obtain ⟨vsl, hvsl⟩ : ∃ x : Int, IntKind.u64.wrap (a * 2 ^ ((k : Int) % 64).toNat) = x := ⟨_, rfl⟩
  have ivsl : Inw vsl := hvsl ▸ wrap_u64_in _
  have Ivsl := Lib.hid ivsl
  clear ivsl
  have Vvsl := Lib.hid hvsl
  clear hvsl
  obtain ⟨vup, hvup⟩ : ∃ x : Int, vsl / 2 ^ ((k : Int) % 64).toNat = x := ⟨_, rfl⟩
  have ivup : Inw vup := hvup ▸ div_in Ivsl.out _
  have Ivup := Lib.hid ivup
  clear ivup
  have Vvup := Lib.hid hvup
  clear hvup
  obtain ⟨vsign, hvsign⟩ : ∃ x : Int, IntKind.u64.wrap (wrap64 (vsl) / 2 ^ ((k : Int) % 64).toNat) = x := ⟨_, rfl⟩
  have ivsign : Inw vsign := hvsign ▸ wrap_u64_in _
  have Ivsign := Lib.hid ivsign
  clear ivsign
  have Vvsign := Lib.hid hvsign
  clear hvsign
  obtain ⟨vsame, hvsame⟩ : ∃ x : Int, IntKind.u64.wrap (wrap64 (a) / 2 ^ ((k : Int) % 64).toNat) = x := ⟨_, rfl⟩
  have ivsame : Inw vsame := hvsame ▸ wrap_u64_in _
  have Ivsame := Lib.hid ivsame
  clear ivsame
  have Vvsame := Lib.hid hvsame
  clear hvsame
  have e64 : ((k : Int) % 64).toNat = k := by have := HK.out; omega
  have facts : IntKind.u64.wrap (2 ^ k) ≠ 0 ∧ (vdown == IntKind.u64.wrap (a - a.tmod (IntKind.u64.wrap (2 ^ k)))) = true ∧ (vup == IntKind.u64.wrap (a * 2 ^ k) / 2 ^ k) = true := by
    refine ⟨?_, ?_, ?_⟩
    · have := pow_pos' k; rw [shl_one k HK.out]; omega
    · rw [beq_iff_eq, ← Vvdown.out, ← Vvsr.out, e64, moves_down a k ha HK.out]
    · rw [beq_iff_eq, ← Vvup.out, ← Vvsl.out, e64]
  have FACTS := Lib.hid facts
  have VS : Hid (signZ a (64 - (k : Int)) = vsign) := Lib.hid (by rw [← Vvsign.out, ← Vvsl.out, e64, ← sign_form a (64 - (k : Int)) ha.1 (by have := HK.out; omega) (by omega), show (64 - (64 - (k : Int))).toNat = k by omega])
  have HD : Hid ((a / 9223372036854775808 == 1) = true ∨ ((a / 9223372036854775808 == 1) = false ∧ (vsame == vsr) = true)) := Lib.hid (by
    by_cases h : 9223372036854775808 ≤ a
    · exact .inl (by rw [beq_iff_eq]; have := ha.2; omega)
    · refine .inr ⟨beq_false_of_ne (by omega), ?_⟩
      have hw : wrap64 a = a := by have := ha.1; unfold wrap64; omega
      have hin := Ivsr.out; rw [← Vvsr.out, e64] at hin
      rw [beq_iff_eq, ← Vvsame.out, ← Vvsr.out, e64, hw, IntKind.wrap_u64]; generalize a / 2 ^ k = q at *; have := hin.1; have := hin.2; omega)
  clear ha e64 facts
  have HN := Lib.hid hn
  clear hn
  go_enter Tryd.func8, Tryd.ntmps8
  go_wp2_with fail
  refine (awake_any _ HN.out).mono ?_; rintro e w1 ⟨rfl, hb⟩
  have B1 := Lib.hid hb
  clear hb
  go_wp2_with fail
  rw [HM.out]
  go_wp2_with fail
  refine (of_srl a (k : Int) _ Ia.out Im.out).mono ?_; rintro e w2 ⟨rfl, hb⟩; rw [Vvsr.out]
  have B2 := Lib.hid (bTrans B1.out hb)
  clear hb B1
  go_wp2_with fail
  refine (of_sll vsr (k : Int) _ Ivsr.out Im.out).mono ?_; rintro e w3 ⟨rfl, hb⟩; rw [Vvdown.out]
  have B3 := Lib.hid (bTrans B2.out hb)
  clear hb B2
  go_wp2_with fail
  refine (of_sll a (k : Int) _ Ia.out Im.out).mono ?_; rintro e w4 ⟨rfl, hb⟩; rw [Vvsl.out]
  have B4 := Lib.hid (bTrans B3.out hb)
  clear hb B3
  go_wp2_with fail
  refine (of_srl vsl (k : Int) _ Ivsl.out Im.out).mono ?_; rintro e w5 ⟨rfl, hb⟩; rw [Vvup.out]
  have B5 := Lib.hid (bTrans B4.out hb)
  clear hb B4
  go_wp2_with fail
  refine (of_sll a (k : Int) _ Ia.out Im.out).mono ?_; rintro e w6 ⟨rfl, hb⟩; rw [Vvsl.out]
  have B6 := Lib.hid (bTrans B5.out hb)
  clear hb B5
  go_wp2_with fail
  refine (of_sra vsl (k : Int) _ Ivsl.out Im.out).mono ?_; rintro e w7 ⟨rfl, hb⟩; rw [Vvsign.out]
  have B7 := Lib.hid (bTrans B6.out hb)
  clear hb B6
  go_wp2_with fail
  refine (of_sra a (k : Int) _ Ia.out Im.out).mono ?_; rintro e w8 ⟨rfl, hb⟩; rw [Vvsame.out]
  have B8 := Lib.hid (bTrans B7.out hb)
  clear hb B7
  go_wp2_with fail
  refine (of_srl a (k : Int) _ Ia.out Im.out).mono ?_; rintro e w9 ⟨rfl, hb⟩; rw [Vvsr.out]
  have B9 := Lib.hid (bTrans B8.out hb)
  clear hb B8
  have hk := HK.out
  obtain ⟨f0, f1, f2⟩ := FACTS.out
  go_wp2_with fail
  refine (rsign_any a (64 - (k : Int)) _ Ia.out.1 Ia.out.2).mono ?_; rintro e w' ⟨rfl, rfl⟩; rw [VS.out]
  rcases HD.out with hd | hd
  · have h3 := hd
    go_wp2_with fail
    go_ret
    exact ⟨rfl, B9.out⟩
  · obtain ⟨h3, h4⟩ := hd
    go_wp2_with fail
    go_ret
    exact ⟨rfl, B9.out⟩
end Go.Proofs.YtoijhhacgafblabDoor
