/- IsaG AluA -/
import Derived.Test.YtegoddghfjfibaaGreatDoorZ10
import Derived.Test.YtegoddghfjfibaaGreatDoorZ14
import Derived.LoopTactic
import Derived.Deep.Cut
import Derived.Deep.RegionWith
import Derived.Test.YtegoddghfjfibaaGreatDoorZ01
import Derived.Great.BuildSlice
import Derived.Great.Walk
import Derived.Deep.WholeRow
namespace Go.Proofs.YtegoddghfjfibaaGreatDoor.Is
set_option linter.unusedVariables false
set_option linter.unusedSimpArgs false
open Go.Joins Go.ChangeShapes Go.WideShapes Go.ChangeAt Go.RowKit

def chkOwn (b : Nat) : Bool := ownK (kindZ b) (shiftZ b) % 128 == 0 && decide (ownK (kindZ b) (shiftZ b) < 4294967296)
theorem own_all : bareL.all chkOwn = true := by decide +kernel
theorem own_low (op : Int) (h1 : 1 ≤ op) (h2 : op ≤ 82) : ownK (kindZ (bareN op)) (shiftZ (bareN op)) % 128 = 0 ∧ ownK (kindZ (bareN op)) (shiftZ (bareN op)) < 4294967296 := by
  have h := List.all_eq_true.mp own_all _ (bare_mem op h1 h2)
  unfold chkOwn at h
  rw [Bool.and_eq_true, beq_iff_eq, decide_eq_true_iff] at h
  exact h
/-- a number in which an operation's own one stands has its code -/
theorem hit_code (b x : Nat) (o : Nat) (ho : o % 128 = 0) (hl : o < 4294967296) (h : (x &&& (4294967295 - o)) = b) : b % 128 = x % 128 := by
  have e : (4294967295 - o) % 128 = 127 := by omega
  rw [← h, show (128 : Nat) = 2 ^ 7 from rfl, Nat.and_mod_two_pow, show (2 : Nat) ^ 7 = 128 from rfl, e, show (127 : Nat) = 2 ^ 7 - 1 from rfl, Nat.and_two_pow_sub_one_eq_mod, show (2 : Nat) ^ 7 = 128 from rfl, Nat.mod_mod]
/-- r is the number of the operation whose own number stands in x; 0: there is none -/
def DecP (x r : Nat) : Prop := (r = 0 ∧ ∀ k : Nat, k < 82 → hitB (bareN ((k : Int) + 1)) x = false) ∨ (1 ≤ r ∧ r ≤ 82 ∧ hitB (bareN (r : Int)) x = true)
theorem decP_one (x i j : Nat) (h1 : 1 ≤ i) (h2 : i ≤ 82) (h3 : 1 ≤ j) (h4 : j ≤ 82) (a : hitB (bareN (i : Int)) x = true) (b : hitB (bareN (j : Int)) x = true) : i = j := by
  have := hit_one _ _ x (bare_mem i (by omega) (by omega)) (bare_mem j (by omega) (by omega)) a b
  have := bare_inj i j (by omega) (by omega) (by omega) (by omega) this
  omega
/-- the instruction that a number is, of operation r; and the error -/
def decV (x r : Nat) : Value := if r = 0 then instV 0 0 0 0 0 else instV r (rdN (kindZ (bareN r)) x) (rs1N (kindZ (bareN r)) x) (rs2N (kindZ (bareN r)) x) (immZ (kindZ (bareN r)) (shiftZ (bareN r)) x)
def decE (r : Nat) : Int := if r = 0 then 40 else 0

set_option maxHeartbeats 4000000 in
theorem decode_any (x r : Nat) (hx : x < 4294967296) (hr : DecP x r) (w : World) (hn : NT w) :
    Calls Tryz.prog 87 #[.int .u32 (x : Int)] w fun e w' => e = .returned (.tuple #[decV x r, .int .i64 (decE r)]) ∧ Below w.heap.size w w' := by
  obtain ⟨V, hV⟩ : ∃ V, decV x r = V := ⟨_, rfl⟩
  obtain ⟨Z, hZ⟩ : ∃ Z, decE r = Z := ⟨_, rfl⟩
  rw [hV, hZ]
  have HV := Lib.hid hV
  have HZ := Lib.hid hZ
  have HN := Lib.hid hn
  have HR := Lib.hid hr
  clear hV hZ hn hr
  go_enter Tryz.func87, Tryz.ntmps87
  go_wp2_with fail
  go_loopw [6] (fun i wr => ∃ j : Nat, j ≤ 82 ∧ i = .int .i64 j ∧ Hid (∀ k : Nat, k < j → hitB (bareN ((k : Int) + 1)) x = false) ∧ Hid (Below w.heap.size w wr) ∧ Hid (Box5 wr w.heap.size (.int .i64 0) (.int .i64 0) (.int .i64 0) (.int .i64 0) (.int .i64 0))) (fun i _ => 82 - (intOf i).toNat)
  case atStart => exact ⟨0, by omega, rfl, Lib.hid fun k hk => absurd hk (by omega), Lib.hid (bAlloc (Below.refl _ _) _), Lib.hid (Box5.new w (.int .i64 0) (.int .i64 0) (.int .i64 0) (.int .i64 0) (.int .i64 0) 61)⟩
  case round =>
    obtain ⟨j, hj, rfl, HK, HB, BX⟩ := hrel
    by_cases h : j < 82
    · have hc := (HN.out.on HB.out).2.2 j h
      have hkn := knows ((j : Int) + 1) (by omega) (by omega)
      have hown := own_low ((j : Int) + 1) (by omega) (by omega)
      by_cases hh : hitB (bareN ((j : Int) + 1)) x = true
      · have e : r = j + 1 := by
          rcases HR.out with ⟨h0, h1⟩ | ⟨h1, h2, h3⟩
          · have := h1 j h
            rw [hh] at this
            exact absurd this (by decide)
          · exact decP_one x r (j + 1) h1 h2 (by omega) (by omega) h3 (by rw [show (((j + 1 : Nat) : Int)) = (j : Int) + 1 by omega]; exact hh)
        have hval : decV x r = instV ((j : Int) + 1) (rdN (kindZ (bareN ((j : Int) + 1))) x) (rs1N (kindZ (bareN ((j : Int) + 1))) x) (rs2N (kindZ (bareN ((j : Int) + 1))) x) (immZ (kindZ (bareN ((j : Int) + 1))) (shiftZ (bareN ((j : Int) + 1))) x) := by
          unfold decV
          rw [if_neg (by omega), e, show (((j + 1 : Nat) : Int)) = (j : Int) + 1 by omega]
        have hz : decE r = 0 := by unfold decE; rw [if_neg (by omega)]
        have hv2 := HV.out
        rw [hval] at hv2
        have hz2 := HZ.out.symm.trans hz
        clear hval hz e HV HZ HR HK
        unfold hitB at hh
        generalize bareN ((j : Int) + 1) = b at hkn hown hc hh hv2
        obtain ⟨-, hb, ho, hrd⟩ := hkn
        have hrd := hrd x hx
        generalize shiftZ b = s at ho hrd hown hh hv2
        generalize kindZ b = k at ho hrd hown hh hv2
        unfold Own at ho
        generalize ownK k s = o at ho hown hh
        unfold ReadP instV at hrd
        unfold instV at hv2
        generalize ((rdN k x : Nat) : Int) = v1 at hrd hv2
        generalize ((rs1N k x : Nat) : Int) = v2 at hrd hv2
        generalize ((rs2N k x : Nat) : Int) = v3 at hrd hv2
        generalize immZ k s x = v4 at hrd hv2
        have HV2 := Lib.hid hv2
        have HZ2 := Lib.hid hz2
        clear hv2 hz2
        have he := beq_iff_eq.mp hh
        have hcode := hit_code b x o hown.1 hown.2 he
        have hA : bits .andNot .u32 (x : Int) (o : Int) = (b : Int) := by rw [u32_andNot_nat x o hx hown.2, he]
        obtain ⟨c, hcb⟩ : ∃ c, ((b % 128 : Nat) : Int) = c := ⟨_, rfl⟩
        have hcx : ((x % 128 : Nat) : Int) = c := by rw [← hcode]; exact hcb
        have HCB := Lib.hid hcb
        have HCX := Lib.hid hcx
        have HO := Lib.hid ho
        have HD := Lib.hid hrd
        clear hh he hcode hcb hcx ho hrd hown
        go_wp2_with fail
        refine (code_any b _ hb).mono ?_; rintro e w' ⟨rfl, rfl⟩; rw [HCB.out]
        go_wp2_with fail
        refine (code_any x _ hx).mono ?_; rintro e w' ⟨rfl, rfl⟩; rw [HCX.out]
        go_wp2_with fail
        refine (HO.out _).mono ?_; rintro e w1 ⟨rfl, hq⟩; have HQ := Lib.hid hq; clear hq
        all_goals (have BY := Lib.hid (BX.out.on HQ.out); have HE := Lib.hid (bTrans HB.out HQ.out); clear BX HB HQ)
        all_goals (go_wp2_with fail)
        all_goals (refine (HD.out _).mono ?_; rintro e w2 ⟨rfl, q2⟩; have BZ := Lib.hid (BY.out.on q2); have HF := Lib.hid (bTrans HE.out q2); clear q2 BY HE)
        all_goals (obtain ⟨f, c0, c1, c2, c3, c4⟩ := BZ.out; have f0 := f 0; have f1 := f 1; have f2 := f 2; have f3 := f 3; have f4 := f 4)
        all_goals (go_wp2_with fail)
        all_goals (obtain ⟨z, z0, z1, z2, z3, z4⟩ := BZ.out.set (.int .i64 ((j : Int) + 1)) (.int .i64 v1) (.int .i64 v2) (.int .i64 v3) (.int .i64 v4))
        all_goals (refine bodyPost_ret (v := .tuple #[V, .int .i64 Z]) ?_ rfl ⟨rfl, ?_⟩)
        all_goals first
          | (rw [← HV2.out, HZ2.out]; simp [results, Tryz.results87, go_sem, instV, z0, z1, z2, z3, z4]; done)
          | exact Below.setCell (Below.setCell (Below.setCell (Below.setCell (Below.setCell HF.out (Nat.le_refl _) _) (Nat.le_refl _) _) (Nat.le_refl _) _) (Nat.le_refl _) _) (Nat.le_refl _) _
      · rw [Bool.not_eq_true] at hh
        have HJ : Hid (∀ k : Nat, k < j + 1 → hitB (bareN ((k : Int) + 1)) x = false) := Lib.hid fun k hk => by
          by_cases hkj : k = j
          · subst hkj; exact hh
          · exact HK.out k (by omega)
        unfold hitB at hh
        generalize bareN ((j : Int) + 1) = b at hkn hown hc hh
        obtain ⟨-, hb, ho, -⟩ := hkn
        generalize shiftZ b = s at *
        generalize kindZ b = k at *
        unfold Own at ho
        generalize ownK k s = o at *
        by_cases hcode : b % 128 = x % 128
        · have hA : (bits .andNot .u32 (x : Int) (o : Int) == (b : Int)) = false := by
            rw [u32_andNot_nat x o hx hown.2]
            rw [beq_eq_false_iff_ne] at hh ⊢
            exact fun hx => hh (by omega)
          obtain ⟨c, hcb⟩ : ∃ c, ((b % 128 : Nat) : Int) = c := ⟨_, rfl⟩
          have hcx : ((x % 128 : Nat) : Int) = c := by rw [← hcode]; exact hcb
          obtain ⟨y, hy⟩ : ∃ y, bits .andNot .u32 (x : Int) (o : Int) = y := ⟨_, rfl⟩
          rw [hy] at hA
          have HCB := Lib.hid hcb
          have HCX := Lib.hid hcx
          have HO := Lib.hid ho
          clear hh hcode hcb hcx ho hown HR HV HZ
          go_wp2_with fail
          refine (code_any b _ hb).mono ?_; rintro e w' ⟨rfl, rfl⟩; rw [HCB.out]
          go_wp2_with fail
          refine (code_any x _ hx).mono ?_; rintro e w' ⟨rfl, rfl⟩; rw [HCX.out]
          go_wp2_with fail
          refine (HO.out _).mono ?_; rintro e w1 ⟨rfl, hq⟩; have HQ := Lib.hid hq; clear hq
          all_goals (have BY := Lib.hid (BX.out.on HQ.out); have HE := Lib.hid (bTrans HB.out HQ.out); clear BX HB HQ)
          all_goals (go_wp2_with fail)
          all_goals go_round
          all_goals first
            | exact ⟨j + 1, by omega, by go_num, HJ, HE, BY⟩
            | (simp [intOf]; omega)
        · have hne : (((b % 128 : Nat) : Int) == ((x % 128 : Nat) : Int)) = false := beq_false_of_ne (by omega)
          obtain ⟨cb, hcb⟩ : ∃ c, ((b % 128 : Nat) : Int) = c := ⟨_, rfl⟩
          obtain ⟨cx, hcx⟩ : ∃ c, ((x % 128 : Nat) : Int) = c := ⟨_, rfl⟩
          rw [hcb, hcx] at hne
          have HCB := Lib.hid hcb
          have HCX := Lib.hid hcx
          clear hh hcode hcb hcx ho hown HR HV HZ
          go_wp2_with fail
          refine (code_any b _ hb).mono ?_; rintro e w' ⟨rfl, rfl⟩; rw [HCB.out]
          go_wp2_with fail
          refine (code_any x _ hx).mono ?_; rintro e w' ⟨rfl, rfl⟩; rw [HCX.out]
          go_wp2_with fail
          all_goals go_round
          all_goals first
            | exact ⟨j + 1, by omega, by go_num, HJ, HB, BX⟩
            | (simp [intOf]; omega)
    · have hd : decide ((j : Int) < 82) = false := decide_eq_false (by omega)
      have e : r = 0 := by
        rcases HR.out with ⟨h0, h1⟩ | ⟨h1, h2, h3⟩
        · exact h0
        · have := HK.out (r - 1) (by omega)
          rw [show (((r - 1 : Nat) : Int) + 1) = (r : Int) by omega, h3] at this
          exact absurd this (by decide)
      obtain ⟨f, c0, c1, c2, c3, c4⟩ := BX.out
      have f0 := f 0; have f1 := f 1; have f2 := f 2; have f3 := f 3; have f4 := f 4
      have hv2 := HV.out
      have hz2 := HZ.out
      subst e
      unfold decV at hv2
      unfold decE at hz2
      rw [if_pos rfl] at hv2 hz2
      subst hv2
      subst hz2
      clear HV HZ HR HK
      go_wp2_with fail
      obtain ⟨z, z0, z1, z2, z3, z4⟩ := BX.out.set (.int .i64 0) (.int .i64 0) (.int .i64 0) (.int .i64 0) (.int .i64 0)
      refine bodyPost_ret (v := .tuple #[instV 0 0 0 0 0, .int .i64 40]) ?_ rfl ⟨rfl, ?_⟩
      · simp [results, Tryz.results87, go_sem, instV, z0, z1, z2, z3, z4]
      · exact Below.setCell (Below.setCell (Below.setCell (Below.setCell (Below.setCell HB.out (Nat.le_refl _) _) (Nat.le_refl _) _) (Nat.le_refl _) _) (Nat.le_refl _) _) (Nat.le_refl _) _
end Go.Proofs.YtegoddghfjfibaaGreatDoor.Is

namespace Go.Proofs.YtegoddghfjfibaaGreatDoor.Al
set_option linter.unusedVariables false
set_option linter.unusedSimpArgs false
open Go.ChangeShapes Go.WideShapes Go.ChangeAt Go.RowKit Go.Great

abbrev fv (n : Nat) : Value := .func (.func n) #[] #[]
def rulesC : Array Value := #[fv 197, fv 198, fv 197, fv 197, fv 199, fv 197, fv 197, fv 200, fv 197, fv 197, fv 201, fv 197, fv 197, fv 202, fv 197, fv 197, fv 203, fv 197, fv 197, fv 204, fv 197, fv 197, fv 205, fv 197, fv 197, fv 206, fv 197, fv 197, fv 207, fv 197, fv 197, fv 208, fv 197, fv 197, fv 209, fv 197, fv 197, fv 210, fv 197, fv 197, fv 211, fv 197, fv 197, fv 212, fv 197, fv 197, fv 213, fv 197, fv 197, fv 214, fv 197, fv 197, fv 215, fv 197, fv 216, fv 198, fv 216, fv 216, fv 199, fv 216, fv 216, fv 217, fv 216, fv 218, fv 219, fv 216, fv 216, fv 220, fv 216, fv 216, fv 208, fv 216, fv 216, fv 212, fv 216, fv 218, fv 213, fv 216, fv 216, fv 214, fv 216, fv 218, fv 215, fv 216, fv 197, fv 198, fv 197, fv 197, fv 201, fv 197, fv 197, fv 202, fv 197, fv 197, fv 203, fv 197, fv 197, fv 206, fv 197, fv 197, fv 207, fv 197, fv 197, fv 200, fv 197, fv 197, fv 204, fv 197, fv 197, fv 205, fv 197, fv 216, fv 198, fv 216, fv 216, fv 217, fv 216, fv 218, fv 219, fv 216, fv 216, fv 220, fv 216]
theorem rules_ret (R : Array Value) (hR : (Tryz.prog.info? 197).map (·.size) = some R.size) (A : Act) (w : World) (h0 : A.tmps.getD 0 undef = .pointer (some ⟨w.heap.size, 0, none⟩)) (hd : A.defers = []) :
    Code.wp Tryz.prog Code.ret (bodyPost Tryz.prog Tryz.f179 fun e w' => e = .returned (.agg R) ∧ Below w.heap.size w w') A (w.alloc (.cells R 197)) := by
  have hl := run_loadVar_new (P := Tryz.prog) w 197 R 41 196 Tryz.underlying197 hR
  refine wp_ret (bodyPost_ret (v := .agg R) ?_ hd ⟨rfl, bAlloc (Below.refl _ _) _⟩)
  obtain ⟨T, D⟩ := A
  simp only at h0
  have h0' : T[0]?.getD undef = .pointer (some ⟨w.heap.size, 0, none⟩) := by simpa using h0
  simp [results, Tryz.results179, h0', h0, asAddr, hl]

attribute [local irreducible] wpList Code.wp

set_option maxHeartbeats 0 in
set_option maxRecDepth 100000 in
theorem rules_any (w : World) :
    Calls Tryz.prog 179 #[] w fun e w' => e = .returned (.agg rulesC) ∧ Below w.heap.size w w' := by
  go_enter Tryz.func179, Tryz.ntmps179
  apply wp_seq_k; intro K0 hK0
  apply wp_region_lit
  refine wpList_allocTo rfl (some 0) rfl (.pointer (some ⟨w.heap.size, 0, none⟩)) (.cells (Array.replicate 123 .nilFunc) 197) (by kernel_rfl) ?_
  apply wpList_nil
  refine hK0 _ _ ?_
  clear hK0 K0
  apply wp_seq_k; intro K1 hK1
  apply wp_region_lit
  refine wpList_buildTo rfl 196 _ rfl (some 1) rfl #[fv 197, fv 198, fv 197] (by kernel_rfl) ?_
  refine wpList_buildTo rfl 196 _ rfl (some 2) rfl #[fv 197, fv 199, fv 197] (by kernel_rfl) ?_
  refine wpList_buildTo rfl 196 _ rfl (some 3) rfl #[fv 197, fv 200, fv 197] (by kernel_rfl) ?_
  refine wpList_buildTo rfl 196 _ rfl (some 4) rfl #[fv 197, fv 201, fv 197] (by kernel_rfl) ?_
  refine wpList_buildTo rfl 196 _ rfl (some 5) rfl #[fv 197, fv 202, fv 197] (by kernel_rfl) ?_
  refine wpList_buildTo rfl 196 _ rfl (some 6) rfl #[fv 197, fv 203, fv 197] (by kernel_rfl) ?_
  refine wpList_buildTo rfl 196 _ rfl (some 7) rfl #[fv 197, fv 204, fv 197] (by kernel_rfl) ?_
  refine wpList_buildTo rfl 196 _ rfl (some 8) rfl #[fv 197, fv 205, fv 197] (by kernel_rfl) ?_
  refine wpList_buildTo rfl 196 _ rfl (some 9) rfl #[fv 197, fv 206, fv 197] (by kernel_rfl) ?_
  refine wpList_buildTo rfl 196 _ rfl (some 10) rfl #[fv 197, fv 207, fv 197] (by kernel_rfl) ?_
  refine wpList_buildTo rfl 196 _ rfl (some 11) rfl #[fv 197, fv 208, fv 197] (by kernel_rfl) ?_
  refine wpList_buildTo rfl 196 _ rfl (some 12) rfl #[fv 197, fv 209, fv 197] (by kernel_rfl) ?_
  refine wpList_buildTo rfl 196 _ rfl (some 13) rfl #[fv 197, fv 210, fv 197] (by kernel_rfl) ?_
  refine wpList_buildTo rfl 196 _ rfl (some 14) rfl #[fv 197, fv 211, fv 197] (by kernel_rfl) ?_
  refine wpList_buildTo rfl 196 _ rfl (some 15) rfl #[fv 197, fv 212, fv 197] (by kernel_rfl) ?_
  refine wpList_buildTo rfl 196 _ rfl (some 16) rfl #[fv 197, fv 213, fv 197] (by kernel_rfl) ?_
  refine wpList_buildTo rfl 196 _ rfl (some 17) rfl #[fv 197, fv 214, fv 197] (by kernel_rfl) ?_
  refine wpList_buildTo rfl 196 _ rfl (some 18) rfl #[fv 197, fv 215, fv 197] (by kernel_rfl) ?_
  refine wpList_buildTo rfl 196 _ rfl (some 19) rfl #[fv 216, fv 198, fv 216] (by kernel_rfl) ?_
  refine wpList_buildTo rfl 196 _ rfl (some 20) rfl #[fv 216, fv 199, fv 216] (by kernel_rfl) ?_
  refine wpList_buildTo rfl 196 _ rfl (some 21) rfl #[fv 216, fv 217, fv 216] (by kernel_rfl) ?_
  refine wpList_buildTo rfl 196 _ rfl (some 22) rfl #[fv 218, fv 219, fv 216] (by kernel_rfl) ?_
  refine wpList_buildTo rfl 196 _ rfl (some 23) rfl #[fv 216, fv 220, fv 216] (by kernel_rfl) ?_
  refine wpList_buildTo rfl 196 _ rfl (some 24) rfl #[fv 216, fv 208, fv 216] (by kernel_rfl) ?_
  refine wpList_buildTo rfl 196 _ rfl (some 25) rfl #[fv 216, fv 212, fv 216] (by kernel_rfl) ?_
  refine wpList_buildTo rfl 196 _ rfl (some 26) rfl #[fv 218, fv 213, fv 216] (by kernel_rfl) ?_
  refine wpList_buildTo rfl 196 _ rfl (some 27) rfl #[fv 216, fv 214, fv 216] (by kernel_rfl) ?_
  refine wpList_buildTo rfl 196 _ rfl (some 28) rfl #[fv 218, fv 215, fv 216] (by kernel_rfl) ?_
  refine wpList_buildTo rfl 196 _ rfl (some 29) rfl #[fv 197, fv 198, fv 197] (by kernel_rfl) ?_
  refine wpList_buildTo rfl 196 _ rfl (some 30) rfl #[fv 197, fv 201, fv 197] (by kernel_rfl) ?_
  refine wpList_buildTo rfl 196 _ rfl (some 31) rfl #[fv 197, fv 202, fv 197] (by kernel_rfl) ?_
  refine wpList_buildTo rfl 196 _ rfl (some 32) rfl #[fv 197, fv 203, fv 197] (by kernel_rfl) ?_
  refine wpList_buildTo rfl 196 _ rfl (some 33) rfl #[fv 197, fv 206, fv 197] (by kernel_rfl) ?_
  refine wpList_buildTo rfl 196 _ rfl (some 34) rfl #[fv 197, fv 207, fv 197] (by kernel_rfl) ?_
  refine wpList_buildTo rfl 196 _ rfl (some 35) rfl #[fv 197, fv 200, fv 197] (by kernel_rfl) ?_
  refine wpList_buildTo rfl 196 _ rfl (some 36) rfl #[fv 197, fv 204, fv 197] (by kernel_rfl) ?_
  refine wpList_buildTo rfl 196 _ rfl (some 37) rfl #[fv 197, fv 205, fv 197] (by kernel_rfl) ?_
  refine wpList_buildTo rfl 196 _ rfl (some 38) rfl #[fv 216, fv 198, fv 216] (by kernel_rfl) ?_
  refine wpList_buildTo rfl 196 _ rfl (some 39) rfl #[fv 216, fv 217, fv 216] (by kernel_rfl) ?_
  refine wpList_buildTo rfl 196 _ rfl (some 40) rfl #[fv 218, fv 219, fv 216] (by kernel_rfl) ?_
  refine wpList_buildTo rfl 196 _ rfl (some 41) rfl #[fv 216, fv 220, fv 216] (by kernel_rfl) ?_
  refine wpList_buildTo rfl 197 _ rfl (some 42) rfl rulesC (by kernel_rfl) ?_
  refine wpList_store_rowTo rfl 197 _ _ rfl rfl w.heap.size rulesC (by kernel_rfl) (by kernel_rfl) 197 (Array.replicate 123 .nilFunc) (heap_alloc_new w _) (by kernel_rfl) (by kernel_rfl) (by kernel_rfl) ?_
  apply wpList_nil
  refine hK1 _ _ ?_
  clear hK1 K1
  rw [World.setRow_alloc_new]
  exact rules_ret rulesC (by kernel_rfl) _ w (by kernel_rfl) (by kernel_rfl)
end Go.Proofs.YtegoddghfjfibaaGreatDoor.Al

