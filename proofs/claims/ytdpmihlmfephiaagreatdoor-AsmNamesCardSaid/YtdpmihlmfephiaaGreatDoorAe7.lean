/- A label's name does not matter: the document's Name; plain mathematics of one text. -/
import Derived.Test.YtdpmihlmfephiaaGreatDoorAe3
namespace Go.Proofs.YtdpmihlmfephiaaGreatDoor
set_option linter.unusedVariables false
set_option linter.unusedSimpArgs false
open Go.Joins Go.ChangeShapes Go.WideShapes Go.ChangeAt Go.RowKit Go.Deep

set_option maxHeartbeats 4000000 in
theorem rname_any (s : List UInt8) (w : World) (hs : s.length < 9223372036854775808) :
    Calls Tryz.prog 22 #[.string ⟨s.toArray⟩] w fun e w' => e = .returned (.bool (nameB s)) ∧ w = w' := by
  obtain ⟨r, hr⟩ : ∃ r, nameB s = r := ⟨_, rfl⟩
  have HR := Lib.hid hr
  rw [hr]
  clear hr
  go_enter Tryz.func22, Tryz.ntmps22
  go_wp2_with fail
  go_loop [3] (fun i => ∃ k : Nat, k ≤ s.length ∧ i = .int .i64 k ∧ Hid (∀ j (h : j < s.length), j < k → okB s[j].toNat j = true)) (fun i => s.length - (intOf i).toNat)
  case atStart => exact ⟨0, by omega, rfl, Lib.hid (fun j _ h => absurd h (by omega))⟩
  case round =>
    obtain ⟨k, hk, rfl, HP⟩ := hrel
    by_cases h : k < s.length
    · have hst : okB s[k].toNat k = true → ∀ j (h : j < s.length), j < k + 1 → okB s[j].toNat j = true := fun hq j hj hjk => by
        by_cases e : j = k
        · subst e; exact hq
        · exact HP.out j hj (by omega)
      have hmi : okB s[k].toNat k = false → nameB s = false := nameB_miss h
      have hc := UInt8.toNat_lt s[k]
      obtain ⟨c, hcc⟩ : ∃ c, s[k].toNat = c := ⟨_, rfl⟩
      rw [hcc] at hst hmi hc
      have hce : ((ByteArray.mk s.toArray)[k]'h).toNat = c := hcc
      have HST := Lib.hid hst
      have HMI := Lib.hid hmi
      clear hst hmi hcc
      go_wp2_with fail
      all_goals first
        | (have hq : okB c k = true := by
            (try simp only [Bool.not_eq_true', Bool.not_eq_false', decide_eq_true_eq, decide_eq_false_iff_not, bne_iff_ne, ne_eq, bne_eq_false_iff_eq, beq_iff_eq, beq_eq_false_iff_ne] at *)
            unfold okB
            simp only [Bool.or_eq_true, Bool.and_eq_true, decide_eq_true_eq, beq_iff_eq]
            omega
           refine ⟨⟨k + 1, by omega, by go_num, Lib.hid (HST.out hq)⟩, ?_⟩
           simp [intOf]
           omega)
        | (have hq : okB c k = false := by
            (try simp only [Bool.not_eq_true', Bool.not_eq_false', decide_eq_true_eq, decide_eq_false_iff_not, bne_iff_ne, ne_eq, bne_eq_false_iff_eq, beq_iff_eq, beq_eq_false_iff_ne] at *)
            rw [Bool.eq_false_iff]
            intro hh
            unfold okB at hh
            simp only [Bool.or_eq_true, Bool.and_eq_true, decide_eq_true_eq, beq_iff_eq] at hh
            omega
           go_ret
           exact ⟨ret_bool (by rw [← HR.out, HMI.out hq]), rfl⟩)
    · obtain rfl : k = s.length := by omega
      have ha := HP.out
      have HRR : Hid (r = decide (s ≠ [])) := Lib.hid (by
        rw [← HR.out, Bool.eq_iff_iff, nameB_iff, decide_eq_true_eq]
        exact ⟨fun h => h.1, fun h => ⟨h, fun j hj => ha j hj hj⟩⟩)
      clear ha HP HR
      cases s with
      | nil =>
        go_wp2_with fail
        all_goals (go_ret; exact ⟨ret_bool (by rw [HRR.out]; rfl), rfl⟩)
      | cons c t =>
        go_wp2_with fail
        all_goals (go_ret; exact ⟨ret_bool (by rw [HRR.out]; simp), rfl⟩)
end Go.Proofs.YtdpmihlmfephiaaGreatDoor
