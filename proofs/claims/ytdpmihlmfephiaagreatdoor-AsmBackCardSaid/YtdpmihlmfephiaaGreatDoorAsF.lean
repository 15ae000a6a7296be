/- Is it a name: the program's and the document's contract. -/
import Derived.Test.YtdpmihlmfephiaaGreatDoorIsaF
import Derived.Test.YtdpmihlmfephiaaGreatDoorAsD
import Derived.LoopTactic
import Derived.Outline
import Derived.Deep.QuietTactic
import Derived.BigQuiet
import Derived.Laws.BitsAllLaws
import Derived.Laws.NewBlocks
import Derived.Deep.RegionHeld3
import Derived.Deep.RegionWith
namespace Go.Proofs.YtdpmihlmfephiaaGreatDoor
set_option linter.unusedVariables false
set_option linter.unusedSimpArgs false
open Go.Joins Go.ChangeShapes Go.WideShapes Go.ChangeAt Go.RowKit

def okB (c k : Nat) : Bool := ((decide (97 ≤ c) && decide (c ≤ 122)) || ((decide (65 ≤ c) && decide (c ≤ 90)) || c == 95)) || ((decide (48 ≤ c) && decide (c ≤ 57)) && decide (0 < k))
theorem letterB_nat (c : UInt8) : letterB c = ((decide (97 ≤ c.toNat) && decide (c.toNat ≤ 122)) || ((decide (65 ≤ c.toNat) && decide (c.toNat ≤ 90)) || c.toNat == 95)) := by
  unfold letterB
  have e : (c == 95) = (c.toNat == 95) := by
    rw [Bool.eq_iff_iff, beq_iff_eq, beq_iff_eq]
    exact ⟨fun e => by rw [e]; rfl, fun e => UInt8.toNat_inj.1 e⟩
  rw [e]
theorem nameB_iff (s : List UInt8) : nameB s = true ↔ s ≠ [] ∧ ∀ j (h : j < s.length), okB s[j].toNat j = true := by
  cases s with
  | nil => simp [nameB]
  | cons c r =>
    constructor
    · intro h
      refine ⟨by simp, fun j hj => ?_⟩
      simp only [nameB, Bool.and_eq_true, List.all_eq_true] at h
      cases j with
      | zero =>
        have h1 := h.1
        rw [letterB_nat] at h1
        unfold okB
        simp only [List.getElem_cons_zero]
        rw [h1]; rfl
      | succ j =>
        have h2 := h.2 (r[j]'(by simpa using hj)) (List.getElem_mem _)
        rw [letterB_nat] at h2
        unfold isDg at h2
        unfold okB
        simp only [List.getElem_cons_succ]
        simpa using h2
    · rintro ⟨-, h⟩
      simp only [nameB, Bool.and_eq_true, List.all_eq_true]
      refine ⟨?_, fun x hx => ?_⟩
      · have h0 := h 0 (by simp)
        unfold okB at h0
        rw [letterB_nat]
        simpa using h0
      · obtain ⟨j, hj, rfl⟩ := List.getElem_of_mem hx
        have h1 := h (j + 1) (by simpa using hj)
        unfold okB at h1
        rw [letterB_nat]
        unfold isDg
        simpa using h1
theorem nameB_miss {s : List UInt8} {j : Nat} (h : j < s.length) (hk : okB s[j].toNat j = false) : nameB s = false := by
  rw [Bool.eq_false_iff]
  intro hn
  have := ((nameB_iff s).1 hn).2 j h
  rw [hk] at this; cases this
set_option maxHeartbeats 4000000 in
theorem isName_any (s : List UInt8) (w : World) (hs : s.length < 9223372036854775808) :
    Calls Tryz.prog 81 #[.string ⟨s.toArray⟩] w fun e w' => e = .returned (.bool (nameB s)) ∧ w = w' := by
  obtain ⟨r, hr⟩ : ∃ r, nameB s = r := ⟨_, rfl⟩
  have HR := Lib.hid hr
  rw [hr]
  clear hr
  go_enter Tryz.func81, Tryz.ntmps81
  go_wp2_with fail
  go_loop [9] (fun i => ∃ k : Nat, k ≤ s.length ∧ i = .int .i64 k ∧ Hid (∀ j (h : j < s.length), j < k → okB s[j].toNat j = true)) (fun i => s.length - (intOf i).toNat)
  case atStart => exact ⟨0, by omega, rfl, Lib.hid (fun j _ h => absurd h (by omega))⟩
  case round =>
    obtain ⟨k, hk, rfl, HP⟩ := hrel
    by_cases h : k < s.length
    · have hst : okB s[k].toNat k = true → ∀ j (h : j < s.length), j < k + 1 → okB s[j].toNat j = true := fun hq j hj hjk => by
        by_cases e : j = k
        · subst e; exact hq
        · exact HP.out j hj (by omega)
      have hmi : okB s[k].toNat k = false → nameB s = false := nameB_miss h
      have hc := UInt8.toNat_lt s[k]
      obtain ⟨c, hcc⟩ : ∃ c, s[k].toNat = c := ⟨_, rfl⟩
      rw [hcc] at hst hmi hc
      have hce : ((ByteArray.mk s.toArray)[k]'h).toNat = c := hcc
      have HST := Lib.hid hst
      have HMI := Lib.hid hmi
      clear hst hmi hcc
      go_wp2_with fail
      all_goals first
        | (have hq : okB c k = true := by
            (try simp only [Bool.not_eq_true', Bool.not_eq_false', decide_eq_true_eq, decide_eq_false_iff_not, bne_iff_ne, ne_eq, bne_eq_false_iff_eq, beq_iff_eq, beq_eq_false_iff_ne] at *)
            unfold okB
            simp only [Bool.or_eq_true, Bool.and_eq_true, decide_eq_true_eq, beq_iff_eq]
            omega
           refine ⟨⟨k + 1, by omega, by go_num, Lib.hid (HST.out hq)⟩, ?_⟩
           simp [intOf]
           omega)
        | (have hq : okB c k = false := by
            (try simp only [Bool.not_eq_true', Bool.not_eq_false', decide_eq_true_eq, decide_eq_false_iff_not, bne_iff_ne, ne_eq, bne_eq_false_iff_eq, beq_iff_eq, beq_eq_false_iff_ne] at *)
            rw [Bool.eq_false_iff]
            intro hh
            unfold okB at hh
            simp only [Bool.or_eq_true, Bool.and_eq_true, decide_eq_true_eq, beq_iff_eq] at hh
            omega
           go_ret
           exact ⟨ret_bool (by rw [← HR.out, HMI.out hq]), rfl⟩)
    · obtain rfl : k = s.length := by omega
      have ha := HP.out
      have HRR : Hid (r = decide (s ≠ [])) := Lib.hid (by
        rw [← HR.out, Bool.eq_iff_iff, nameB_iff, decide_eq_true_eq]
        exact ⟨fun h => h.1, fun h => ⟨h, fun j hj => ha j hj hj⟩⟩)
      clear ha HP HR
      cases s with
      | nil =>
        go_wp2_with fail
        all_goals (go_ret; exact ⟨ret_bool (by rw [HRR.out]; rfl), rfl⟩)
      | cons c t =>
        go_wp2_with fail
        all_goals (go_ret; exact ⟨ret_bool (by rw [HRR.out]; simp), rfl⟩)
end Go.Proofs.YtdpmihlmfephiaaGreatDoor
