/- The law of names: any number, any name. -/
import Derived.Test.YtaiphmmdallhcaaDoorIsaO
import Derived.Test.YtaiphmmdallhcaaDoorIsaH
namespace Go.Proofs.YtaiphmmdallhcaaDoor
set_option linter.unusedVariables false
set_option linter.unusedSimpArgs false
open Go.Joins Go.ChangeShapes Go.WideShapes Go.ChangeAt Go.RowKit

def kindChk : Bool := (List.range 82).all fun i => (opR ((i : Int) + 1)).2.1 == kindZ (bareN ((i : Int) + 1))
theorem kind_same (op : Int) : (opR op).2.1 = kindO op := by
  unfold kindO
  by_cases h : 1 ≤ op ∧ op ≤ 82
  · rw [if_pos h]
    have hk : kindChk = true := by decide +kernel
    unfold kindChk at hk
    rw [List.all_eq_true] at hk
    have := hk (op.toNat - 1) (List.mem_range.mpr (by omega))
    rw [show (((op.toNat - 1 : Nat) : Int) + 1) = op by omega, beq_iff_eq] at this
    exact this
  · rw [if_neg h]
    unfold opR
    rw [if_neg h]
def namesChk : Bool := (List.range 82).all fun i => !(opN ((i : Int) + 1) == []) && ((List.range i).all fun k => !(opN ((k : Int) + 1) == opN ((i : Int) + 1)))
theorem names_ok : namesChk = true := by decide +kernel
theorem name_some (op : Int) (h1 : 1 ≤ op) (h2 : op ≤ 82) : (opN op == []) = false := by
  have h := names_ok
  unfold namesChk at h
  rw [List.all_eq_true] at h
  have := h (op.toNat - 1) (List.mem_range.mpr (by omega))
  rw [show (((op.toNat - 1 : Nat) : Int) + 1) = op by omega, Bool.and_eq_true, Bool.not_eq_true'] at this
  exact this.1
theorem name_own (op : Int) (h1 : 1 ≤ op) (h2 : op ≤ 82) : FindP (opN op) op.toNat := by
  have h := names_ok
  unfold namesChk at h
  rw [List.all_eq_true] at h
  have := h (op.toNat - 1) (List.mem_range.mpr (by omega))
  rw [show (((op.toNat - 1 : Nat) : Int) + 1) = op by omega, Bool.and_eq_true, List.all_eq_true] at this
  refine .inr ⟨by omega, by omega, by rw [Int.toNat_of_nonneg (by omega)]; exact beq_self_eq_true _, fun k hk => ?_⟩
  have := this.2 k (List.mem_range.mpr (by omega))
  rwa [Bool.not_eq_true'] at this
theorem findP_nil (r : Nat) (h : FindP [] r) : r = 0 := by
  rcases h with ⟨h, -⟩ | ⟨h1, h2, h3, -⟩
  · exact h
  · have := name_some (r : Int) (by omega) (by omega)
    rw [h3] at this
    exact absurd this (by decide)
theorem find_none : FindP [] 0 := .inl ⟨rfl, fun k hk => name_some _ (by omega) (by omega)⟩
set_option maxHeartbeats 1000000 in
theorem IsaNames_walk (op : Int) (name : List UInt8) (w : World) (hn : NT w) :
    Calls Tryd.prog 5 #[.int .i64 op, .string ⟨name.toArray⟩] w fun e w' => e = .returned (.bool true) ∧ Below w.heap.size w w' := by
  obtain ⟨r, hr⟩ := findP_ex name
  obtain ⟨g, hg⟩ := findP_ex (opN op)
  have HN := Lib.hid hn
  have ho := fun w => of_any op w
  have hm := fun w hn => name_any op w hn
  have hk := fun w hn => kind_any op w hn
  have hgop : (1 ≤ op ∧ op ≤ 82) → (g : Int) = op := by
    rintro ⟨h1, h2⟩
    have h := name_own op h1 h2
    have hs := name_some op h1 h2
    rcases hg with ⟨-, q⟩ | ⟨q1, q2, q3, q4⟩
    · have := q (op.toNat - 1) (by omega)
      rw [show (((op.toNat - 1 : Nat) : Int) + 1) = op by omega] at this
      simp at this
    · rcases h with ⟨q, -⟩ | ⟨p1, p2, p3, p4⟩
      · omega
      · rcases Nat.lt_trichotomy g op.toNat with k | k | k
        · have := p4 (g - 1) (by omega)
          rw [show (((g - 1 : Nat) : Int) + 1) = (g : Int) by omega, q3] at this
          exact absurd this (by decide)
        · omega
        · have := q4 (op.toNat - 1) (by omega)
          rw [show (((op.toNat - 1 : Nat) : Int) + 1) = op by omega] at this
          simp at this
  have hin : (opN op == []) = false ∧ (g : Int) = op ∨ opN op = [] := by
    by_cases h : 1 ≤ op ∧ op ≤ 82
    · exact .inl ⟨name_some op h.1 h.2, hgop h⟩
    · exact .inr (opN_out op h)
  unfold opV at ho
  rw [kind_same] at ho
  generalize kindO op = K at ho hk
  have HG := Lib.hid hg
  have HR := Lib.hid hr
  generalize opN op = s at ho hm hin HG
  generalize opR op = p at ho
  have HO := Lib.hid ho
  have HM := Lib.hid hm
  have HK := Lib.hid hk
  clear hn ho hm hk hgop hg hr
  by_cases he : name = []
  · subst he
    obtain rfl := findP_nil r HR.out
    rcases hin with ⟨hs, rfl⟩ | rfl
    · skip
      go_enter Tryd.func5, Tryd.ntmps5
      go_wp2_with fail
      refine (awake_any _ HN.out).mono ?_; rintro e w1 ⟨rfl, q1⟩
      have Q1 := Lib.hid q1; clear q1
      go_wp2_with fail
      refine (HO.out _).mono ?_; rintro e w2 ⟨rfl, q2⟩
      have Q2 := Lib.hid (bTrans Q1.out q2); clear q2 Q1
      go_wp2_with fail
      refine (HM.out _ (HN.out.on (bAlloc Q2.out _))).mono ?_; rintro e w3 ⟨rfl, rfl⟩
      go_wp2_with fail
      refine (HK.out _ (HN.out.on (bAlloc Q2.out _))).mono ?_; rintro e w3 ⟨rfl, q3⟩
      have b0 := (boxed q3 0).trans rfl; have b1 := (boxed q3 1).trans rfl
      have Q3 := Lib.hid (bTrans (bAlloc Q2.out _) q3); clear q3 Q2
      go_wp2_with fail
      refine (find_any _ 0 HR.out _ (HN.out.on Q3.out)).mono ?_; rintro e w4 ⟨rfl, rfl⟩
      go_wp2_with fail
      refine (find_any _ g HG.out _ (HN.out.on Q3.out)).mono ?_; rintro e w4 ⟨rfl, rfl⟩
      go_wp2_with fail
      all_goals (go_ret; exact ⟨rfl, Q3.out⟩)
    · skip
      go_enter Tryd.func5, Tryd.ntmps5
      go_wp2_with fail
      refine (awake_any _ HN.out).mono ?_; rintro e w1 ⟨rfl, q1⟩
      have Q1 := Lib.hid q1; clear q1
      go_wp2_with fail
      refine (HO.out _).mono ?_; rintro e w2 ⟨rfl, q2⟩
      have Q2 := Lib.hid (bTrans Q1.out q2); clear q2 Q1
      go_wp2_with fail
      refine (HM.out _ (HN.out.on (bAlloc Q2.out _))).mono ?_; rintro e w3 ⟨rfl, rfl⟩
      go_wp2_with fail
      refine (HK.out _ (HN.out.on (bAlloc Q2.out _))).mono ?_; rintro e w3 ⟨rfl, q3⟩
      have b0 := (boxed q3 0).trans rfl; have b1 := (boxed q3 1).trans rfl
      have Q3 := Lib.hid (bTrans (bAlloc Q2.out _) q3); clear q3 Q2
      go_wp2_with fail
      refine (find_any _ 0 HR.out _ (HN.out.on Q3.out)).mono ?_; rintro e w4 ⟨rfl, rfl⟩
      go_wp2_with fail
      refine (find_any _ g HG.out _ (HN.out.on Q3.out)).mono ?_; rintro e w4 ⟨rfl, rfl⟩
      go_wp2_with fail
      all_goals (go_ret; exact ⟨rfl, Q3.out⟩)
  · have he : (name == []) = false := by simpa using he
    rcases hin with ⟨hs, rfl⟩ | rfl
    · skip
      go_enter Tryd.func5, Tryd.ntmps5
      go_wp2_with fail
      refine (awake_any _ HN.out).mono ?_; rintro e w1 ⟨rfl, q1⟩
      have Q1 := Lib.hid q1; clear q1
      go_wp2_with fail
      refine (HO.out _).mono ?_; rintro e w2 ⟨rfl, q2⟩
      have Q2 := Lib.hid (bTrans Q1.out q2); clear q2 Q1
      go_wp2_with fail
      refine (HM.out _ (HN.out.on (bAlloc Q2.out _))).mono ?_; rintro e w3 ⟨rfl, rfl⟩
      go_wp2_with fail
      refine (HK.out _ (HN.out.on (bAlloc Q2.out _))).mono ?_; rintro e w3 ⟨rfl, q3⟩
      have b0 := (boxed q3 0).trans rfl; have b1 := (boxed q3 1).trans rfl
      have Q3 := Lib.hid (bTrans (bAlloc Q2.out _) q3); clear q3 Q2
      go_wp2_with fail
      refine (find_any _ r HR.out _ (HN.out.on Q3.out)).mono ?_; rintro e w4 ⟨rfl, rfl⟩
      go_wp2_with fail
      refine (find_any _ g HG.out _ (HN.out.on Q3.out)).mono ?_; rintro e w4 ⟨rfl, rfl⟩
      go_wp2_with fail
      all_goals (refine (rfind_any _ r HR.out _).mono ?_; rintro e w5 ⟨rfl, q5⟩; have Q5 := Lib.hid (bTrans Q3.out q5); clear q5)
      all_goals (go_wp2_with fail)
      all_goals (go_ret; exact ⟨rfl, Q5.out⟩)
    · skip
      go_enter Tryd.func5, Tryd.ntmps5
      go_wp2_with fail
      refine (awake_any _ HN.out).mono ?_; rintro e w1 ⟨rfl, q1⟩
      have Q1 := Lib.hid q1; clear q1
      go_wp2_with fail
      refine (HO.out _).mono ?_; rintro e w2 ⟨rfl, q2⟩
      have Q2 := Lib.hid (bTrans Q1.out q2); clear q2 Q1
      go_wp2_with fail
      refine (HM.out _ (HN.out.on (bAlloc Q2.out _))).mono ?_; rintro e w3 ⟨rfl, rfl⟩
      go_wp2_with fail
      refine (HK.out _ (HN.out.on (bAlloc Q2.out _))).mono ?_; rintro e w3 ⟨rfl, q3⟩
      have b0 := (boxed q3 0).trans rfl; have b1 := (boxed q3 1).trans rfl
      have Q3 := Lib.hid (bTrans (bAlloc Q2.out _) q3); clear q3 Q2
      go_wp2_with fail
      refine (find_any _ r HR.out _ (HN.out.on Q3.out)).mono ?_; rintro e w4 ⟨rfl, rfl⟩
      go_wp2_with fail
      refine (find_any _ g HG.out _ (HN.out.on Q3.out)).mono ?_; rintro e w4 ⟨rfl, rfl⟩
      go_wp2_with fail
      all_goals (refine (rfind_any _ r HR.out _).mono ?_; rintro e w5 ⟨rfl, q5⟩; have Q5 := Lib.hid (bTrans Q3.out q5); clear q5)
      all_goals (go_wp2_with fail)
      all_goals (go_ret; exact ⟨rfl, Q5.out⟩)
end Go.Proofs.YtaiphmmdallhcaaDoor
