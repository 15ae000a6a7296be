/- IsaO IsaH IsaK -/
import Derived.Test.YtegoddghfjfibaaGreatDoorZ37
import Derived.Test.YtegoddghfjfibaaGreatDoorZ18
import Derived.LoopTactic
import Derived.Test.YtegoddghfjfibaaGreatDoorZ15
namespace Go.Proofs.YtegoddghfjfibaaGreatDoor.Is
set_option linter.unusedVariables false
set_option linter.unusedSimpArgs false
open Go.Joins Go.ChangeShapes Go.WideShapes Go.ChangeAt Go.RowKit

set_option maxHeartbeats 2000000 in
theorem low_out (op : Int) (w : World) (h : op < 1) : Calls Tryz.prog 64 #[.int .i64 op] w fun e w' => e = .returned (opV op) ∧ Below w.heap.size w w' := by
  have f1 : (op == 1) = false := beq_false_of_ne (by omega)
  have f2 : (op == 2) = false := beq_false_of_ne (by omega)
  have f3 : (op == 3) = false := beq_false_of_ne (by omega)
  have f4 : (op == 4) = false := beq_false_of_ne (by omega)
  have f5 : (op == 5) = false := beq_false_of_ne (by omega)
  have f6 : (op == 6) = false := beq_false_of_ne (by omega)
  have f7 : (op == 7) = false := beq_false_of_ne (by omega)
  have f8 : (op == 8) = false := beq_false_of_ne (by omega)
  have f9 : (op == 9) = false := beq_false_of_ne (by omega)
  have f10 : (op == 10) = false := beq_false_of_ne (by omega)
  have f11 : (op == 11) = false := beq_false_of_ne (by omega)
  have f12 : (op == 12) = false := beq_false_of_ne (by omega)
  have f13 : (op == 13) = false := beq_false_of_ne (by omega)
  have f14 : (op == 14) = false := beq_false_of_ne (by omega)
  have f15 : (op == 15) = false := beq_false_of_ne (by omega)
  have f16 : (op == 16) = false := beq_false_of_ne (by omega)
  have f17 : (op == 17) = false := beq_false_of_ne (by omega)
  have f18 : (op == 18) = false := beq_false_of_ne (by omega)
  have f19 : (op == 19) = false := beq_false_of_ne (by omega)
  have f20 : (op == 20) = false := beq_false_of_ne (by omega)
  have f21 : (op == 21) = false := beq_false_of_ne (by omega)
  have f22 : (op == 22) = false := beq_false_of_ne (by omega)
  have f23 : (op == 23) = false := beq_false_of_ne (by omega)
  have f24 : (op == 24) = false := beq_false_of_ne (by omega)
  have f25 : (op == 25) = false := beq_false_of_ne (by omega)
  have f26 : (op == 26) = false := beq_false_of_ne (by omega)
  have f27 : (op == 27) = false := beq_false_of_ne (by omega)
  have f28 : (op == 28) = false := beq_false_of_ne (by omega)
  have f29 : (op == 29) = false := beq_false_of_ne (by omega)
  have f30 : (op == 30) = false := beq_false_of_ne (by omega)
  have f31 : (op == 31) = false := beq_false_of_ne (by omega)
  have f32 : (op == 32) = false := beq_false_of_ne (by omega)
  have f33 : (op == 33) = false := beq_false_of_ne (by omega)
  have f34 : (op == 34) = false := beq_false_of_ne (by omega)
  have f35 : (op == 35) = false := beq_false_of_ne (by omega)
  have f36 : (op == 36) = false := beq_false_of_ne (by omega)
  have hv := opV_out op (.inl h)
  rw [hv]
  clear hv h
  go_enter Tryz.func64, Tryz.ntmps64
  go_wp2_with fail
  exact bodyPost_ret (by simp [results, Tryz.results64, go_sem]) rfl ⟨rfl, bAlloc (Below.refl _ _) _⟩
set_option maxHeartbeats 2000000 in
theorem high_out (op : Int) (w : World) (h : 82 < op) : Calls Tryz.prog 65 #[.int .i64 op] w fun e w' => e = .returned (opV op) ∧ Below w.heap.size w w' := by
  have f37 : (op == 37) = false := beq_false_of_ne (by omega)
  have f38 : (op == 38) = false := beq_false_of_ne (by omega)
  have f39 : (op == 39) = false := beq_false_of_ne (by omega)
  have f40 : (op == 40) = false := beq_false_of_ne (by omega)
  have f41 : (op == 41) = false := beq_false_of_ne (by omega)
  have f42 : (op == 42) = false := beq_false_of_ne (by omega)
  have f43 : (op == 43) = false := beq_false_of_ne (by omega)
  have f44 : (op == 44) = false := beq_false_of_ne (by omega)
  have f45 : (op == 45) = false := beq_false_of_ne (by omega)
  have f46 : (op == 46) = false := beq_false_of_ne (by omega)
  have f47 : (op == 47) = false := beq_false_of_ne (by omega)
  have f48 : (op == 48) = false := beq_false_of_ne (by omega)
  have f49 : (op == 49) = false := beq_false_of_ne (by omega)
  have f50 : (op == 50) = false := beq_false_of_ne (by omega)
  have f51 : (op == 51) = false := beq_false_of_ne (by omega)
  have f52 : (op == 52) = false := beq_false_of_ne (by omega)
  have f53 : (op == 53) = false := beq_false_of_ne (by omega)
  have f54 : (op == 54) = false := beq_false_of_ne (by omega)
  have f55 : (op == 55) = false := beq_false_of_ne (by omega)
  have f56 : (op == 56) = false := beq_false_of_ne (by omega)
  have f57 : (op == 57) = false := beq_false_of_ne (by omega)
  have f58 : (op == 58) = false := beq_false_of_ne (by omega)
  have f59 : (op == 59) = false := beq_false_of_ne (by omega)
  have f60 : (op == 60) = false := beq_false_of_ne (by omega)
  have f61 : (op == 61) = false := beq_false_of_ne (by omega)
  have f62 : (op == 62) = false := beq_false_of_ne (by omega)
  have f63 : (op == 63) = false := beq_false_of_ne (by omega)
  have f64 : (op == 64) = false := beq_false_of_ne (by omega)
  have f65 : (op == 65) = false := beq_false_of_ne (by omega)
  have f66 : (op == 66) = false := beq_false_of_ne (by omega)
  have f67 : (op == 67) = false := beq_false_of_ne (by omega)
  have f68 : (op == 68) = false := beq_false_of_ne (by omega)
  have f69 : (op == 69) = false := beq_false_of_ne (by omega)
  have f70 : (op == 70) = false := beq_false_of_ne (by omega)
  have f71 : (op == 71) = false := beq_false_of_ne (by omega)
  have f72 : (op == 72) = false := beq_false_of_ne (by omega)
  have f73 : (op == 73) = false := beq_false_of_ne (by omega)
  have f74 : (op == 74) = false := beq_false_of_ne (by omega)
  have f75 : (op == 75) = false := beq_false_of_ne (by omega)
  have f76 : (op == 76) = false := beq_false_of_ne (by omega)
  have f77 : (op == 77) = false := beq_false_of_ne (by omega)
  have f78 : (op == 78) = false := beq_false_of_ne (by omega)
  have f79 : (op == 79) = false := beq_false_of_ne (by omega)
  have f80 : (op == 80) = false := beq_false_of_ne (by omega)
  have f81 : (op == 81) = false := beq_false_of_ne (by omega)
  have f82 : (op == 82) = false := beq_false_of_ne (by omega)
  have hv := opV_out op (.inr h)
  rw [hv]
  clear hv h
  go_enter Tryz.func65, Tryz.ntmps65
  go_wp2_with fail
  exact bodyPost_ret (by simp [results, Tryz.results65, go_sem]) rfl ⟨rfl, bAlloc (Below.refl _ _) _⟩
theorem low_all (op : Int) (w : World) (h : op ≤ 36) : Calls Tryz.prog 64 #[.int .i64 op] w fun e w' => e = .returned (opV op) ∧ Below w.heap.size w w' := by
  by_cases h1 : 1 ≤ op
  · exact low_in op w h1 h
  · exact low_out op w (by omega)
theorem high_all (op : Int) (w : World) (h : ¬ op ≤ 36) : Calls Tryz.prog 65 #[.int .i64 op] w fun e w' => e = .returned (opV op) ∧ Below w.heap.size w w' := by
  by_cases h1 : op ≤ 82
  · exact high_in op w (by omega) h1
  · exact high_out op w (by omega)
theorem many_any (w : World) : Calls Tryz.prog 102 #[] w fun e w' => e = .returned (.int .i64 82) ∧ w = w' := by
  go_enter Tryz.func102, Tryz.ntmps102
  go_wp2_with fail
  go_ret
  exact ⟨rfl, rfl⟩
theorem set6 {w : World} {P : Nat} {u0 u1 u2 u3 u4 u5 v0 v1 v2 v3 v4 v5 : Value} (h : w.cell? ⟨P, 0, none⟩ = some u0 ∧ w.cell? ⟨P, 1, none⟩ = some u1 ∧ w.cell? ⟨P, 2, none⟩ = some u2 ∧ w.cell? ⟨P, 3, none⟩ = some u3 ∧ w.cell? ⟨P, 4, none⟩ = some u4 ∧ w.cell? ⟨P, 5, none⟩ = some u5) :
    ((((((w.setCell ⟨P, 0, none⟩ v0).setCell ⟨P, 1, none⟩ v1).setCell ⟨P, 2, none⟩ v2).setCell ⟨P, 3, none⟩ v3).setCell ⟨P, 4, none⟩ v4).setCell ⟨P, 5, none⟩ v5).cell? ⟨P, 0, none⟩ = some v0 ∧ ((((((w.setCell ⟨P, 0, none⟩ v0).setCell ⟨P, 1, none⟩ v1).setCell ⟨P, 2, none⟩ v2).setCell ⟨P, 3, none⟩ v3).setCell ⟨P, 4, none⟩ v4).setCell ⟨P, 5, none⟩ v5).cell? ⟨P, 1, none⟩ = some v1 ∧ ((((((w.setCell ⟨P, 0, none⟩ v0).setCell ⟨P, 1, none⟩ v1).setCell ⟨P, 2, none⟩ v2).setCell ⟨P, 3, none⟩ v3).setCell ⟨P, 4, none⟩ v4).setCell ⟨P, 5, none⟩ v5).cell? ⟨P, 2, none⟩ = some v2 ∧ ((((((w.setCell ⟨P, 0, none⟩ v0).setCell ⟨P, 1, none⟩ v1).setCell ⟨P, 2, none⟩ v2).setCell ⟨P, 3, none⟩ v3).setCell ⟨P, 4, none⟩ v4).setCell ⟨P, 5, none⟩ v5).cell? ⟨P, 3, none⟩ = some v3 ∧ ((((((w.setCell ⟨P, 0, none⟩ v0).setCell ⟨P, 1, none⟩ v1).setCell ⟨P, 2, none⟩ v2).setCell ⟨P, 3, none⟩ v3).setCell ⟨P, 4, none⟩ v4).setCell ⟨P, 5, none⟩ v5).cell? ⟨P, 4, none⟩ = some v4 ∧ ((((((w.setCell ⟨P, 0, none⟩ v0).setCell ⟨P, 1, none⟩ v1).setCell ⟨P, 2, none⟩ v2).setCell ⟨P, 3, none⟩ v3).setCell ⟨P, 4, none⟩ v4).setCell ⟨P, 5, none⟩ v5).cell? ⟨P, 5, none⟩ = some v5 := by
  obtain ⟨h0, h1, h2, h3, h4, h5⟩ := h
  refine ⟨?_, ?_, ?_, ?_, ?_, ?_⟩
  · refine (World.cell?_setCell_other _ _ _ _ (by simp)).trans ?_; refine (World.cell?_setCell_other _ _ _ _ (by simp)).trans ?_; refine (World.cell?_setCell_other _ _ _ _ (by simp)).trans ?_; refine (World.cell?_setCell_other _ _ _ _ (by simp)).trans ?_; refine (World.cell?_setCell_other _ _ _ _ (by simp)).trans ?_; refine World.cell?_setCell_same (u := u0) _ _ _ ?_; exact h0
  · refine (World.cell?_setCell_other _ _ _ _ (by simp)).trans ?_; refine (World.cell?_setCell_other _ _ _ _ (by simp)).trans ?_; refine (World.cell?_setCell_other _ _ _ _ (by simp)).trans ?_; refine (World.cell?_setCell_other _ _ _ _ (by simp)).trans ?_; refine World.cell?_setCell_same (u := u1) _ _ _ ?_; refine (World.cell?_setCell_other _ _ _ _ (by simp)).trans ?_; exact h1
  · refine (World.cell?_setCell_other _ _ _ _ (by simp)).trans ?_; refine (World.cell?_setCell_other _ _ _ _ (by simp)).trans ?_; refine (World.cell?_setCell_other _ _ _ _ (by simp)).trans ?_; refine World.cell?_setCell_same (u := u2) _ _ _ ?_; refine (World.cell?_setCell_other _ _ _ _ (by simp)).trans ?_; refine (World.cell?_setCell_other _ _ _ _ (by simp)).trans ?_; exact h2
  · refine (World.cell?_setCell_other _ _ _ _ (by simp)).trans ?_; refine (World.cell?_setCell_other _ _ _ _ (by simp)).trans ?_; refine World.cell?_setCell_same (u := u3) _ _ _ ?_; refine (World.cell?_setCell_other _ _ _ _ (by simp)).trans ?_; refine (World.cell?_setCell_other _ _ _ _ (by simp)).trans ?_; refine (World.cell?_setCell_other _ _ _ _ (by simp)).trans ?_; exact h3
  · refine (World.cell?_setCell_other _ _ _ _ (by simp)).trans ?_; refine World.cell?_setCell_same (u := u4) _ _ _ ?_; refine (World.cell?_setCell_other _ _ _ _ (by simp)).trans ?_; refine (World.cell?_setCell_other _ _ _ _ (by simp)).trans ?_; refine (World.cell?_setCell_other _ _ _ _ (by simp)).trans ?_; refine (World.cell?_setCell_other _ _ _ _ (by simp)).trans ?_; exact h4
  · refine World.cell?_setCell_same (u := u5) _ _ _ ?_; refine (World.cell?_setCell_other _ _ _ _ (by simp)).trans ?_; refine (World.cell?_setCell_other _ _ _ _ (by simp)).trans ?_; refine (World.cell?_setCell_other _ _ _ _ (by simp)).trans ?_; refine (World.cell?_setCell_other _ _ _ _ (by simp)).trans ?_; refine (World.cell?_setCell_other _ _ _ _ (by simp)).trans ?_; exact h5

theorem of_any (op : Int) (w : World) : Calls Tryz.prog 25 #[.int .i64 op] w fun e w' => e = .returned (opV op) ∧ Below w.heap.size w w' := by
  by_cases h : op ≤ 36
  · have h1 : decide (op ≤ 36) = true := decide_eq_true h
    have hlow : ∀ w, Calls Tryz.prog 64 #[.int .i64 op] w fun e w' => e = .returned (opV op) ∧ Below w.heap.size w w' := fun w => low_all op w h
    unfold opV at hlow ⊢
    generalize opN op = s at hlow ⊢
    generalize opR op = r at hlow ⊢
    obtain ⟨r0, r1, r2, r3, r4, r5⟩ := r
    simp only at hlow ⊢
    have HL := Lib.hid hlow
    clear h hlow
    go_enter Tryz.func25, Tryz.ntmps25
    go_wp2_with fail
    refine (HL.out _).mono ?_; rintro e w1 ⟨rfl, hb⟩
    have f0 := boxedF hb 0; have f1 := boxedF hb 1; have f2 := boxedF hb 2; have f3 := boxedF hb 3; have f4 := boxedF hb 4; have f5 := boxedF hb 5
    have b0 := (boxed hb 0).trans rfl; have b1 := (boxed hb 1).trans rfl; have b2 := (boxed hb 2).trans rfl; have b3 := (boxed hb 3).trans rfl; have b4 := (boxed hb 4).trans rfl; have b5 := (boxed hb 5).trans rfl
    have HB := Lib.hid (bTrans (bAlloc (Below.refl _ _) _) hb)
    have hset := fun v0 v1 v2 v3 v4 v5 => set6 (v0 := v0) (v1 := v1) (v2 := v2) (v3 := v3) (v4 := v4) (v5 := v5) ⟨b0, b1, b2, b3, b4, b5⟩
    have HSET := Lib.hid hset
    clear hb hset
    go_wp2_with fail
    have k := HSET.out (.string ⟨s.toArray⟩) (.int .i64 r1) (.int .i64 r2) (.int .i64 r3) (.int .i64 r4) (.int .i64 r5)
    obtain ⟨k0, k1, k2, k3, k4, k5⟩ := k
    refine bodyPost_ret (v := .agg #[.string ⟨s.toArray⟩, .int .i64 r1, .int .i64 r2, .int .i64 r3, .int .i64 r4, .int .i64 r5]) ?_ rfl ⟨rfl, ?_⟩
    · simp [results, Tryz.results25, go_sem, k0, k1, k2, k3, k4, k5]
    · repeat' (first | (with_reducible refine Below.setCell ?_ ?_ _) | (with_reducible exact HB.out) | exact Nat.le_refl _)
  · have h1 : decide (op ≤ 36) = false := decide_eq_false h
    have hlow : ∀ w, Calls Tryz.prog 65 #[.int .i64 op] w fun e w' => e = .returned (opV op) ∧ Below w.heap.size w w' := fun w => high_all op w h
    unfold opV at hlow ⊢
    generalize opN op = s at hlow ⊢
    generalize opR op = r at hlow ⊢
    obtain ⟨r0, r1, r2, r3, r4, r5⟩ := r
    simp only at hlow ⊢
    have HL := Lib.hid hlow
    clear h hlow
    go_enter Tryz.func25, Tryz.ntmps25
    go_wp2_with fail
    refine (HL.out _).mono ?_; rintro e w1 ⟨rfl, hb⟩
    have f0 := boxedF hb 0; have f1 := boxedF hb 1; have f2 := boxedF hb 2; have f3 := boxedF hb 3; have f4 := boxedF hb 4; have f5 := boxedF hb 5
    have b0 := (boxed hb 0).trans rfl; have b1 := (boxed hb 1).trans rfl; have b2 := (boxed hb 2).trans rfl; have b3 := (boxed hb 3).trans rfl; have b4 := (boxed hb 4).trans rfl; have b5 := (boxed hb 5).trans rfl
    have HB := Lib.hid (bTrans (bAlloc (Below.refl _ _) _) hb)
    have hset := fun v0 v1 v2 v3 v4 v5 => set6 (v0 := v0) (v1 := v1) (v2 := v2) (v3 := v3) (v4 := v4) (v5 := v5) ⟨b0, b1, b2, b3, b4, b5⟩
    have HSET := Lib.hid hset
    clear hb hset
    go_wp2_with fail
    have k := HSET.out (.string ⟨s.toArray⟩) (.int .i64 r1) (.int .i64 r2) (.int .i64 r3) (.int .i64 r4) (.int .i64 r5)
    obtain ⟨k0, k1, k2, k3, k4, k5⟩ := k
    refine bodyPost_ret (v := .agg #[.string ⟨s.toArray⟩, .int .i64 r1, .int .i64 r2, .int .i64 r3, .int .i64 r4, .int .i64 r5]) ?_ rfl ⟨rfl, ?_⟩
    · simp [results, Tryz.results25, go_sem, k0, k1, k2, k3, k4, k5]
    · repeat' (first | (with_reducible refine Below.setCell ?_ ?_ _) | (with_reducible exact HB.out) | exact Nat.le_refl _)
theorem rfind_any (s : List UInt8) (r : Nat) (hr : FindP s r) (w : World) :
    Calls Tryz.prog 66 #[.string ⟨s.toArray⟩] w fun e w' => e = .returned (.int .i64 r) ∧ Below w.heap.size w w' := by
  have HR := Lib.hid hr
  clear hr
  go_enter Tryz.func66, Tryz.ntmps66
  go_wp2_with fail
  go_loopw [3] (fun i wr => ∃ j : Nat, 1 ≤ j ∧ j ≤ 83 ∧ i = .int .i64 j ∧ Hid (∀ k : Nat, k + 1 < j → (opN ((k : Int) + 1) == s) = false) ∧ Hid (Below w.heap.size w wr)) (fun i _ => 83 - (intOf i).toNat)
  case atStart => exact ⟨1, by omega, by omega, rfl, Lib.hid (fun k hk => absurd hk (by omega)), Lib.hid (Below.refl _ _)⟩
  case round =>
    obtain ⟨j, hj1, hj2, rfl, HK, HB⟩ := hrel
    by_cases h : j ≤ 82
    · have hd : decide ((j : Int) ≤ 82) = true := decide_eq_true (by omega)
      go_wp2_with (go_at_call 102; refine (many_any _).mono ?_; rintro e w' ⟨rfl, rfl⟩)
      refine (of_any j _).mono ?_; rintro e w1 ⟨rfl, hb⟩
      have HB1 := Lib.hid (bAlloc (bTrans HB.out hb) (.cells #[.string ⟨(opN j).toArray⟩, .int .i64 (opR j).2.1, .int .i64 (opR j).2.2.1, .int .i64 (opR j).2.2.2.1, .int .i64 (opR j).2.2.2.2.1, .int .i64 (opR j).2.2.2.2.2] 57))
      clear hb HB
      unfold opV
      by_cases hq : (opN j == s) = true
      · have hjr : r = j := by
          rcases HR.out with ⟨h0, h1⟩ | ⟨h1, h2, h3, h4⟩
          · have := h1 (j - 1) (by omega)
            rw [show (((j - 1 : Nat) : Int) + 1) = (j : Int) by omega, hq] at this
            exact absurd this (by decide)
          · rcases Nat.lt_trichotomy r j with k | k | k
            · have := HK.out (r - 1) (by omega)
              rw [show (((r - 1 : Nat) : Int) + 1) = (r : Int) by omega, h3] at this
              exact absurd this (by decide)
            · exact k
            · have := h4 (j - 1) (by omega)
              rw [show (((j - 1 : Nat) : Int) + 1) = (j : Int) by omega, hq] at this
              exact absurd this (by decide)
        have HJ := Lib.hid hjr
        clear hjr HR HK
        generalize opN j = t at *
        generalize opR j = p at *
        go_wp2_with fail
        go_ret
        exact ⟨by rw [HJ.out]; rfl, HB1.out⟩
      · rw [Bool.not_eq_true] at hq
        have HQ := Lib.hid hq
        obtain ⟨t, ht⟩ : ∃ t, opN (j : Int) = t := ⟨_, rfl⟩
        rw [ht] at hq HB1 ⊢
        have HT := Lib.hid ht
        clear ht
        generalize opR j = p at *
        go_wp2_with fail
        go_round
        case rel =>
          refine ⟨j + 1, by omega, by omega, by go_num, Lib.hid (fun k hk => ?_), HB1⟩
          by_cases hkj : k + 1 = j
          · have := HQ.out
            rw [← hkj] at this
            exact this
          · exact HK.out k (by omega)
        case measure => simp [intOf]; omega
    · have hd : decide ((j : Int) ≤ 82) = false := decide_eq_false (by omega)
      have e : r = 0 := by
        rcases HR.out with ⟨h0, h1⟩ | ⟨h1, h2, h3, h4⟩
        · exact h0
        · have := HK.out (r - 1) (by omega)
          rw [show (((r - 1 : Nat) : Int) + 1) = (r : Int) by omega, h3] at this
          exact absurd this (by decide)
      subst e
      go_wp2_with (go_at_call 102; refine (many_any _).mono ?_; rintro e w' ⟨rfl, rfl⟩)
      go_ret
      exact ⟨rfl, HB.out⟩
end Go.Proofs.YtegoddghfjfibaaGreatDoor.Is

namespace Go.Proofs.YtegoddghfjfibaaGreatDoor.Is
set_option linter.unusedVariables false
set_option linter.unusedSimpArgs false
open Go.Joins Go.ChangeShapes Go.WideShapes Go.ChangeAt Go.RowKit

def findC (s : List UInt8) (r : Nat) : Bool := decide (1 ≤ r) && (decide (r ≤ 82) && ((opN (r : Int) == s) && ((List.range (r - 1)).all fun k => !(opN ((k : Int) + 1) == s))))
theorem findP_of (s : List UInt8) (r : Nat) (h : findC s r = true) : FindP s r := by
  unfold findC at h
  rw [Bool.and_eq_true, Bool.and_eq_true, Bool.and_eq_true, decide_eq_true_iff, decide_eq_true_iff, List.all_eq_true] at h
  obtain ⟨h1, h2, h3, h4⟩ := h
  refine .inr ⟨h1, h2, h3, fun k hk => ?_⟩
  have := h4 k (List.mem_range.mpr (by omega))
  rwa [Bool.not_eq_true'] at this
end Go.Proofs.YtegoddghfjfibaaGreatDoor.Is

namespace Go.Proofs.YtegoddghfjfibaaGreatDoor.Is
set_option linter.unusedVariables false
set_option maxRecDepth 100000
set_option linter.unusedSimpArgs false
open Go.Joins Go.ChangeShapes Go.WideShapes Go.ChangeAt Go.RowKit

def kindChk : Bool := (List.range 82).all fun i => (opR ((i : Int) + 1)).2.1 == kindZ (bareN ((i : Int) + 1))
theorem kind_same (op : Int) : (opR op).2.1 = kindO op := by
  unfold kindO
  by_cases h : 1 ≤ op ∧ op ≤ 82
  · rw [if_pos h]
    have hk : kindChk = true := by decide +kernel
    unfold kindChk at hk
    rw [List.all_eq_true] at hk
    have := hk (op.toNat - 1) (List.mem_range.mpr (by omega))
    rw [show (((op.toNat - 1 : Nat) : Int) + 1) = op by omega, beq_iff_eq] at this
    exact this
  · rw [if_neg h]
    unfold opR
    rw [if_neg h]
def namesChk : Bool := (List.range 82).all fun i => !(opN ((i : Int) + 1) == []) && ((List.range i).all fun k => !(opN ((k : Int) + 1) == opN ((i : Int) + 1)))
theorem names_ok : namesChk = true := by decide +kernel
theorem name_some (op : Int) (h1 : 1 ≤ op) (h2 : op ≤ 82) : (opN op == []) = false := by
  have h := names_ok
  unfold namesChk at h
  rw [List.all_eq_true] at h
  have := h (op.toNat - 1) (List.mem_range.mpr (by omega))
  rw [show (((op.toNat - 1 : Nat) : Int) + 1) = op by omega, Bool.and_eq_true, Bool.not_eq_true'] at this
  exact this.1
end Go.Proofs.YtegoddghfjfibaaGreatDoor.Is

