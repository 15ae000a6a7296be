/- Hashes of names: plain arithmetic, and the contracts of both functions. -/
import Derived.Test.YthammjpadbbflaaMem
import Derived.Test.YthammjpadbbflaaRows
import Derived.Laws.BitsAllLaws
import Derived.WalkKit
import Derived.ProofKit
import Derived.LoopTactic
import Derived.Lib.Hide
import Derived.Lib.SmallJoins
namespace Go.Proofs.Ythammjpadbbflaa
set_option linter.unusedVariables false
set_option linter.unusedSimpArgs false
open Go.Joins Go.ChangeShapes Go.WideShapes Go.ChangeAt Go.RowKit

def stepH (h c : Nat) : Nat := ((h * 16 + c) % 4294967296 ^^^ (h * 16 + c) % 4294967296 / 268435456 * 16) % 268435456
def ofH (s : List UInt8) : Nat := s.foldl (fun h c => stepH h c.toNat) 0
theorem stepH_lt (h c : Nat) : stepH h c < 268435456 := Nat.mod_lt _ (by decide)
theorem ofH_snoc (s : List UInt8) (c : UInt8) : ofH (s ++ [c]) = stepH (ofH s) c.toNat := by unfold ofH; rw [List.foldl_append]; rfl
theorem ofH_lt (s : List UInt8) : ofH s < 268435456 := by
  rcases List.eq_nil_or_concat s with rfl | ⟨l, c, rfl⟩
  · decide
  · rw [List.concat_eq_append, ofH_snoc]; exact stepH_lt _ _
theorem not_bit (o i : Nat) (ho : o < 4294967296) : (4294967295 - o).testBit i = (decide (i < 32) && !o.testBit i) := by
  have h : 4294967295 - o = (~~~(BitVec.ofNat 32 o)).toNat := by
    rw [BitVec.toNat_not, BitVec.toNat_ofNat, Nat.mod_eq_of_lt (by omega)]
  have h2 : o.testBit i = (BitVec.ofNat 32 o).toNat.testBit i := by rw [BitVec.toNat_ofNat, Nat.mod_eq_of_lt (by omega)]
  rw [h, h2, BitVec.testBit_toNat, BitVec.testBit_toNat, BitVec.getLsbD_not]
theorem clear_top (g t : Nat) (hg : g < 4294967296) (ht : t < 268435456) : (g ^^^ t) &&& (4294967295 - g / 268435456 * 268435456) = (g ^^^ t) % 268435456 := by
  apply Nat.eq_of_testBit_eq
  intro i
  have e : (268435456 : Nat) = 2 ^ 28 := by decide
  rw [Nat.testBit_and, not_bit _ _ (by omega), e, Nat.testBit_mod_two_pow, Nat.testBit_mul_two_pow, Nat.testBit_div_two_pow, Nat.testBit_xor]
  by_cases h : i < 28
  · rw [decide_eq_true h, decide_eq_true (show i < 32 by omega), decide_eq_false (show ¬ 28 ≤ i by omega)]
    simp
  · have ht' : t.testBit i = false := Nat.testBit_lt_two_pow (Nat.lt_of_lt_of_le ht (by rw [e]; exact Nat.pow_le_pow_right (by decide) (by omega)))
    rw [decide_eq_false h, decide_eq_true (show 28 ≤ i by omega), ht', Nat.sub_add_cancel (by omega)]
    cases g.testBit i <;> simp
theorem top_and (g : Nat) (hg : g < 4294967296) : g &&& 4026531840 = g / 268435456 * 268435456 := by
  apply Nat.eq_of_testBit_eq
  intro i
  have e : (268435456 : Nat) = 2 ^ 28 := by decide
  have e2 : (4026531840 : Nat) = (2 ^ 4 - 1) * 2 ^ 28 := by decide
  rw [Nat.testBit_and, e2, e, Nat.testBit_mul_two_pow, Nat.testBit_mul_two_pow, Nat.testBit_two_pow_sub_one, Nat.testBit_div_two_pow]
  by_cases h : 28 ≤ i
  · rw [decide_eq_true h, Nat.sub_add_cancel h]
    by_cases h2 : i - 28 < 4
    · rw [decide_eq_true h2]; simp
    · have : g.testBit i = false := Nat.testBit_lt_two_pow (Nat.lt_of_lt_of_le hg (by rw [show (4294967296 : Nat) = 2 ^ 32 by decide]; exact Nat.pow_le_pow_right (by decide) (by omega)))
      rw [this]; simp
  · rw [decide_eq_false h]; simp
/-- one round of the program's reckoning -/
theorem hash_round (h c : Nat) (hh : h < 268435456) (hc : c < 256) :
    bits .andNot .u32 (bits .xor .u32 (((h * 16 + c) % 4294967296 : Nat) : Int) (bits .and .u32 (((h * 16 + c) % 4294967296 : Nat) : Int) 4026531840 / 16777216)) (bits .and .u32 (((h * 16 + c) % 4294967296 : Nat) : Int) 4026531840) = ((stepH h c : Nat) : Int) := by
  unfold stepH
  have hg : (h * 16 + c) % 4294967296 < 4294967296 := Nat.mod_lt _ (by decide)
  generalize (h * 16 + c) % 4294967296 = g at hg ⊢
  have ho : bits .and .u32 (g : Int) 4026531840 = ((g / 268435456 * 268435456 : Nat) : Int) := by
    have := u32_and_nat g 4026531840 hg (by decide)
    rw [top_and g hg] at this
    exact this
  rw [ho, show ((g / 268435456 * 268435456 : Nat) : Int) / 16777216 = ((g / 268435456 * 16 : Nat) : Int) by omega, u32_xor_nat g _ hg (by omega)]
  have hx : g ^^^ g / 268435456 * 16 < 4294967296 := Nat.xor_lt_two_pow (n := 32) hg (by omega)
  rw [u32_andNot_nat _ _ hx (by omega), clear_top g _ hg (by omega)]
theorem of_any (s : List UInt8) (w : World) (hs : s.length < 9223372036854775808) :
    Calls Try.prog 88 #[.string ⟨s.toArray⟩] w fun e w' => e = .returned (.int .u32 ((ofH s : Nat) : Int)) ∧ w = w' := by
  go_enter Try.func88, Try.ntmps88
  go_wp2_with fail
  go_loop [3, 8] (fun h i => ∃ k : Nat, k ≤ s.length ∧ i = .int .i64 k ∧ h = .int .u32 ((ofH (s.take k) : Nat) : Int)) (fun _ i => s.length - (intOf i).toNat)
  case atStart => exact ⟨0, by omega, rfl, by simp [ofH]⟩
  case round =>
    obtain ⟨k, hk, rfl, rfl⟩ := hrel
    by_cases h : k < s.length
    · have hlt := ofH_lt (s.take k)
      have hnx : s.take (k + 1) = s.take k ++ [s[k]] := by rw [List.take_add_one, List.getElem?_eq_getElem h]; rfl
      have hst : ofH (s.take (k + 1)) = stepH (ofH (s.take k)) s[k].toNat := by rw [hnx, ofH_snoc]
      have hr := hash_round (ofH (s.take k)) s[k].toNat hlt (UInt8.toNat_lt _)
      rw [← hst] at hr
      generalize ofH (s.take k) = a at *
      have HR := Lib.hid hr
      clear hr hst hnx
      have he : ∀ x : Nat, ((a : Int) * 16 + (x : Int)) % 4294967296 = (((a * 16 + x) % 4294967296 : Nat) : Int) := fun x => by omega
      have HE := Lib.hid he
      clear he
      go_wp2_with fail
      go_round
      case rel =>
        refine ⟨k + 1, by omega, by go_num, congrArg (Value.int IntKind.u32) ?_⟩
        rw [HE.out]
        exact HR.out
      case measure => simp [intOf]; omega
    · obtain rfl : k = s.length := by omega
      rw [List.take_length]
      go_wp2_with fail
      go_ret
      exact ⟨rfl, rfl⟩
theorem rg_form (a c : Nat) (ha : a < 268435456) (hc : c < 256) : (IntKind.u64.wrap ((a : Int) * 16 + IntKind.u64.wrap (c : Int))).tmod 4294967296 = (((a * 16 + c) % 4294967296 : Nat) : Int) := by
  rw [IntKind.wrap_u64, IntKind.wrap_u64, Int.tmod_eq_emod_of_nonneg (by omega)]
  omega
theorem rtop_form (g : Nat) (hg : g < 4294967296) : IntKind.u64.wrap ((g : Int).tdiv 268435456) = ((g / 268435456 : Nat) : Int) := by
  rw [IntKind.wrap_u64, Int.tdiv_eq_ediv_of_nonneg (by omega)]
  omega
theorem rround_yes (g : Nat) (hg : g < 4294967296) : (bits .xor .u64 (g : Int) (IntKind.u64.wrap (IntKind.u64.wrap ((g : Int).tdiv 268435456) * 16))).tmod 268435456 = (((g ^^^ g / 268435456 * 16) % 268435456 : Nat) : Int) := by
  rw [rtop_form g hg, IntKind.wrap_u64, show ((g / 268435456 : Nat) : Int) * 16 % 18446744073709551616 = ((g / 268435456 * 16 : Nat) : Int) by omega, u64_xor_nat g _ (by omega) (by omega), Int.tmod_eq_emod_of_nonneg (by omega)]
  omega
theorem rround_no (g : Nat) (hg : g < 4294967296) (h : IntKind.u64.wrap ((g : Int).tdiv 268435456) ≤ 0) : (g : Int) = (((g ^^^ g / 268435456 * 16) % 268435456 : Nat) : Int) := by
  rw [rtop_form g hg] at h
  have h0 : g / 268435456 = 0 := by omega
  rw [h0, Nat.zero_mul, Nat.xor_zero]
  omega
theorem shown_any (v0 v1 v2 v3 : Value) (kd bd sn : Int) (df : Bool) (w : World) :
    Calls Try.prog 34 #[.agg #[v0, v1, v2, v3, .int .i64 kd, .int .i64 bd, .int .i64 sn, .bool df]] w fun e w' => e = .returned (.bool (df && (bd != 1 && sn == 1))) ∧ Below w.heap.size w w' := by
  go_enter Try.func34, Try.ntmps34
  go_wp2_with fail
  all_goals exact bodyPost_ret (v := .bool (df && (bd != 1 && sn == 1))) (by simp [results, Try.results34, go_sem, *]) rfl ⟨rfl, bAlloc (Below.refl _ _) _⟩
theorem rshown_any (v0 v1 v2 v3 : Value) (kd bd sn : Int) (df : Bool) (w : World) :
    Calls Try.prog 21 #[.agg #[v0, v1, v2, v3, .int .i64 kd, .int .i64 bd, .int .i64 sn, .bool df]] w fun e w' => e = .returned (.bool (df && (bd != 1 && sn == 1))) ∧ Below w.heap.size w w' := by
  go_enter Try.func21, Try.ntmps21
  go_wp2_with fail
  all_goals exact bodyPost_ret (v := .bool (df && (bd != 1 && sn == 1))) (by simp [results, Try.results21, go_sem, *]) rfl ⟨rfl, bAlloc (Below.refl _ _) _⟩
end Go.Proofs.Ythammjpadbbflaa
