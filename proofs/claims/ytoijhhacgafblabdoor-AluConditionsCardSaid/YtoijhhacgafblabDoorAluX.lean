/- The walk of AluConditions. -/
import Derived.Test.YtoijhhacgafblabDoorAluQ
namespace Go.Proofs.YtoijhhacgafblabDoor
set_option linter.unusedVariables false
set_option linter.unusedSimpArgs false
open Go.Joins Go.ChangeShapes Go.WideShapes Go.ChangeAt Go.RowKit

/-- equal; below or above with a sign, below or above without one -/
def condCases : List (Bool × Bool × Bool × Bool × Bool × Bool × Bool) :=
  [(true, false, false, true, false, true, false), (false, true, true, false, true, false, false), (false, true, true, false, false, true, false), (false, true, false, true, true, false, true), (false, true, false, true, false, true, true)]
theorem cond_cases (a b : Int) (ha : Inw a) (hb : Inw b) : ((a == b), (a != b), decide (wrap64 a < wrap64 b), decide (wrap64 b ≤ wrap64 a), decide (a < b), decide (b ≤ a), decide (wrap64 b < wrap64 a)) ∈ condCases := by
  have wa : wrap64 a = if a < 9223372036854775808 then a else a - 18446744073709551616 := by have := ha.1; have := ha.2; unfold wrap64; split <;> omega
  have wb : wrap64 b = if b < 9223372036854775808 then b else b - 18446744073709551616 := by have := hb.1; have := hb.2; unfold wrap64; split <;> omega
  have h0 := ha.1; have h1 := ha.2; have h2 := hb.1; have h3 := hb.2
  have mk : ∀ (p q r s t u v : Bool), (a == b) = p → (a != b) = q → decide (wrap64 a < wrap64 b) = r → decide (wrap64 b ≤ wrap64 a) = s → decide (a < b) = t → decide (b ≤ a) = u → decide (wrap64 b < wrap64 a) = v → (p, q, r, s, t, u, v) ∈ condCases →
      ((a == b), (a != b), decide (wrap64 a < wrap64 b), decide (wrap64 b ≤ wrap64 a), decide (a < b), decide (b ≤ a), decide (wrap64 b < wrap64 a)) ∈ condCases := by
    intro p q r s t u v e1 e2 e3 e4 e5 e6 e7 h
    rw [e1, e2, e3, e4, e5, e6, e7]; exact h
  have T : ∀ {p : Prop} [Decidable p], p → decide p = true := fun h => decide_eq_true h
  have Fl : ∀ {p : Prop} [Decidable p], ¬ p → decide p = false := fun h => decide_eq_false h
  by_cases e : a = b
  · subst e
    exact mk true false false true false true false (beq_self_eq_true _) (by simp) (Fl (by omega)) (T (by omega)) (Fl (by omega)) (T (by omega)) (Fl (by omega)) (by simp [condCases])
  · have n1 : (a == b) = false := beq_false_of_ne e
    have n2 : (a != b) = true := bne_iff_ne.2 e
    have hne : wrap64 a ≠ wrap64 b := by rw [wa, wb]; split <;> split <;> omega
    by_cases c1 : wrap64 a < wrap64 b <;> by_cases c2 : a < b
    · exact mk _ _ _ _ _ _ _ n1 n2 (T c1) (Fl (by omega)) (T c2) (Fl (by omega)) (Fl (by omega)) (by simp [condCases])
    · exact mk _ _ _ _ _ _ _ n1 n2 (T c1) (Fl (by omega)) (Fl c2) (T (by omega)) (Fl (by omega)) (by simp [condCases])
    · exact mk _ _ _ _ _ _ _ n1 n2 (Fl c1) (T (by omega)) (T c2) (Fl (by omega)) (T (by omega)) (by simp [condCases])
    · exact mk _ _ _ _ _ _ _ n1 n2 (Fl c1) (T (by omega)) (Fl c2) (T (by omega)) (T (by omega)) (by simp [condCases])
set_option maxHeartbeats 2000000 in
set_option maxRecDepth 8000 in
theorem AluConditions_walk (a b : Int) (w : World) (hn : NT w) (ha : Inw a) (hb : Inw b) :
    Calls Tryd.prog 7 #[.int .u64 a, .int .u64 b] w fun e w' => e = .returned (.bool true) ∧ Below w.heap.size w w' := by
  have Ia := Lib.hid ha; have Ib := Lib.hid hb
  obtain ⟨ceq, heq⟩ : ∃ x : Bool, (a == b) = x := ⟨_, rfl⟩
  obtain ⟨cne, hne⟩ : ∃ x : Bool, (a != b) = x := ⟨_, rfl⟩
  obtain ⟨clt, hlt⟩ : ∃ x : Bool, decide (wrap64 a < wrap64 b) = x := ⟨_, rfl⟩
  obtain ⟨cge, hge⟩ : ∃ x : Bool, decide (wrap64 b ≤ wrap64 a) = x := ⟨_, rfl⟩
  obtain ⟨cltu, hltu⟩ : ∃ x : Bool, decide (a < b) = x := ⟨_, rfl⟩
  obtain ⟨cgeu, hgeu⟩ : ∃ x : Bool, decide (b ≤ a) = x := ⟨_, rfl⟩
  obtain ⟨cgt, hgt⟩ : ∃ x : Bool, decide (wrap64 b < wrap64 a) = x := ⟨_, rfl⟩
  have fact : (ceq, cne, clt, cge, cltu, cgeu, cgt) ∈ condCases := by rw [← heq, ← hne, ← hlt, ← hge, ← hltu, ← hgeu, ← hgt]; exact cond_cases a b ha hb
  have Veq := Lib.hid heq
  have Vne := Lib.hid hne
  have Vlt := Lib.hid hlt
  have Vge := Lib.hid hge
  have Vltu := Lib.hid hltu
  have Vgeu := Lib.hid hgeu
  have Vgt := Lib.hid hgt
  have E1 : Hid (numZ (decide (wrap64 a < wrap64 b)) = numZ clt) := Lib.hid (by rw [hlt])
  have E2 : Hid (numZ (decide (a < b)) = numZ cltu) := Lib.hid (by rw [hltu])
  have FACT := Lib.hid fact
  clear fact heq hne hlt hge hltu hgeu hgt
  have HN := Lib.hid hn
  clear hn
  have Hha := Lib.hid ha
  have Hhb := Lib.hid hb
  clear ha hb
  go_enter Tryd.func7, Tryd.ntmps7
  go_wp2_with fail
  refine (awake_any _ HN.out).mono ?_; rintro e w1 ⟨rfl, hb⟩
  have B1 := Lib.hid hb
  clear hb
  go_wp2_with fail
  refine (find_beq _).mono ?_; rintro e w2 ⟨rfl, hb⟩
  have B2 := Lib.hid (bTrans B1.out hb)
  clear hb B1
  go_wp2_with fail
  refine (holds_beq a b _ (HN.out.on B2.out) Ia.out Ib.out).mono ?_; rintro e w' ⟨rfl, rfl⟩; rw [Veq.out]
  go_wp2_with fail
  refine (find_bne _).mono ?_; rintro e w3 ⟨rfl, hb⟩
  have B3 := Lib.hid (bTrans B2.out hb)
  clear hb B2
  go_wp2_with fail
  refine (holds_bne a b _ (HN.out.on B3.out) Ia.out Ib.out).mono ?_; rintro e w' ⟨rfl, rfl⟩; rw [Vne.out]
  go_wp2_with fail
  refine (find_blt _).mono ?_; rintro e w4 ⟨rfl, hb⟩
  have B4 := Lib.hid (bTrans B3.out hb)
  clear hb B3
  go_wp2_with fail
  refine (holds_blt a b _ (HN.out.on B4.out) Ia.out Ib.out).mono ?_; rintro e w' ⟨rfl, rfl⟩; rw [Vlt.out]
  go_wp2_with fail
  refine (find_bge _).mono ?_; rintro e w5 ⟨rfl, hb⟩
  have B5 := Lib.hid (bTrans B4.out hb)
  clear hb B4
  go_wp2_with fail
  refine (holds_bge a b _ (HN.out.on B5.out) Ia.out Ib.out).mono ?_; rintro e w' ⟨rfl, rfl⟩; rw [Vge.out]
  go_wp2_with fail
  refine (find_bltu _).mono ?_; rintro e w6 ⟨rfl, hb⟩
  have B6 := Lib.hid (bTrans B5.out hb)
  clear hb B5
  go_wp2_with fail
  refine (holds_bltu a b _ (HN.out.on B6.out) Ia.out Ib.out).mono ?_; rintro e w' ⟨rfl, rfl⟩; rw [Vltu.out]
  go_wp2_with fail
  refine (find_bgeu _).mono ?_; rintro e w7 ⟨rfl, hb⟩
  have B7 := Lib.hid (bTrans B6.out hb)
  clear hb B6
  go_wp2_with fail
  refine (holds_bgeu a b _ (HN.out.on B7.out) Ia.out Ib.out).mono ?_; rintro e w' ⟨rfl, rfl⟩; rw [Vgeu.out]
  go_wp2_with fail
  refine (find_blt _).mono ?_; rintro e w8 ⟨rfl, hb⟩
  have B8 := Lib.hid (bTrans B7.out hb)
  clear hb B7
  go_wp2_with fail
  refine (holds_blt b a _ (HN.out.on B8.out) Ib.out Ia.out).mono ?_; rintro e w' ⟨rfl, rfl⟩; rw [Vgt.out]
  go_wp2_with fail
  refine (of_slt a b _ Ia.out Ib.out).mono ?_; rintro e w9 ⟨rfl, hb⟩; rw [E1.out]
  have B9 := Lib.hid (bTrans B8.out hb)
  clear hb B8
  go_wp2_with fail
  refine (of_sltu a b _ Ia.out Ib.out).mono ?_; rintro e w10 ⟨rfl, hb⟩; rw [E2.out]
  have B10 := Lib.hid (bTrans B9.out hb)
  clear hb B9
  have ee := Veq.out
  have fact := FACT.out
  simp only [condCases, List.mem_cons, List.not_mem_nil, or_false, Prod.mk.injEq] at fact
  rcases fact with ⟨rfl, rfl, rfl, rfl, rfl, rfl, rfl⟩ | ⟨rfl, rfl, rfl, rfl, rfl, rfl, rfl⟩ | ⟨rfl, rfl, rfl, rfl, rfl, rfl, rfl⟩ | ⟨rfl, rfl, rfl, rfl, rfl, rfl, rfl⟩ | ⟨rfl, rfl, rfl, rfl, rfl, rfl, rfl⟩
  all_goals (simp only [numZ, if_true, if_false, Bool.false_eq_true]; go_wp2_with fail; go_ret; exact ⟨by simp [ee], B10.out⟩)
end Go.Proofs.YtoijhhacgafblabDoor
