/- Contracts of what Check asks: names, counts, segments. -/
import Derived.Test.YtknldomgmogccaaCeA
import Derived.LoopTactic
import Derived.Outline
import Derived.Deep.QuietTactic
import Derived.BigQuiet
import Derived.Laws.BitsAllLaws
import Derived.OpenShut
import Derived.Lib.SmallJoins
import Derived.Deep.RegionHeld3
import Derived.Deep.RegionWith
import Derived.Laws.NewBlocks
namespace Go.Proofs.Ytknldomgmogccaa
set_option linter.unusedVariables false
set_option linter.unusedSimpArgs false
open Go.Joins Go.ChangeShapes Go.WideShapes Go.ChangeAt Go.RowKit

theorem all_take {α : Type} (p : α → Bool) (l : List α) (k : Nat) (h : k < l.length) : (l.take (k + 1)).all p = ((l.take k).all p && p l[k]) := by
  rw [List.take_add_one, List.getElem?_eq_getElem h, List.all_append]; simp
theorem all_miss {α : Type} (p : α → Bool) (l : List α) (k : Nat) (h : k < l.length) (hp : p l[k] = false) : l.all p = false := by
  rw [Bool.eq_false_iff]
  intro hall
  have := List.all_eq_true.1 hall l[k] (List.getElem_mem h)
  rw [hp] at this; cases this
set_option maxHeartbeats 2000000 in
theorem name_any (s : List UInt8) (w : World) (hs : s.length < 9223372036854775808) :
    Calls Try.prog 54 #[.string ⟨s.toArray⟩] w fun e w' => e = .returned (.bool (nameB s)) ∧ w = w' := by
  obtain ⟨r, hr⟩ : ∃ r, nameB s = r := ⟨_, rfl⟩
  have HR := Lib.hid hr
  rw [hr]
  clear hr
  go_enter Try.func54, Try.ntmps54
  go_wp2_with fail
  go_loop [9] (fun i => ∃ k : Nat, k ≤ s.length ∧ i = .int .i64 k ∧ Hid ((s.take k).all (fun c => chB c.toNat) = true)) (fun i => s.length - (intOf i).toNat)
  case atStart => exact ⟨0, by omega, rfl, Lib.hid rfl⟩
  case round =>
    obtain ⟨k, hk, rfl, HP⟩ := hrel
    by_cases h : k < s.length
    · have hst : (s.take (k + 1)).all (fun c => chB c.toNat) = ((s.take k).all (fun c => chB c.toNat) && chB s[k].toNat) := all_take (fun c => chB c.toNat) s k h
      have hmi : chB s[k].toNat = false → s.all (fun c => chB c.toNat) = false := all_miss (fun c => chB c.toNat) s k h
      have hc := UInt8.toNat_lt s[k]
      rw [HP.out, Bool.true_and] at hst
      obtain ⟨c, hcc⟩ : ∃ c, s[k].toNat = c := ⟨_, rfl⟩
      rw [hcc] at hst hmi hc
      have hce : ((ByteArray.mk s.toArray)[k]'h).toNat = c := hcc
      have HST := Lib.hid hst
      have HMI := Lib.hid hmi
      clear hst hmi hcc
      go_wp2_with fail
      all_goals first
        | (have hq : chB c = true := by
            (try simp only [Bool.not_eq_true', Bool.not_eq_false', decide_eq_true_eq, decide_eq_false_iff_not, bne_iff_ne, ne_eq, bne_eq_false_iff_eq] at *)
            unfold chB
            simp only [Bool.or_eq_true, Bool.and_eq_true, decide_eq_true_eq, beq_iff_eq]
            omega
           refine ⟨⟨k + 1, by omega, by go_num, Lib.hid (HST.out.trans hq)⟩, ?_⟩
           simp [intOf]
           omega)
        | (have hq : chB c = false := by
            (try simp only [Bool.not_eq_true', Bool.not_eq_false', decide_eq_true_eq, decide_eq_false_iff_not, bne_iff_ne, ne_eq, bne_eq_false_iff_eq] at *)
            rw [Bool.eq_false_iff]
            intro hh
            unfold chB at hh
            simp only [Bool.or_eq_true, Bool.and_eq_true, decide_eq_true_eq, beq_iff_eq] at hh
            omega
           go_ret
           exact ⟨ret_bool (by rw [← HR.out]; unfold nameB; rw [HMI.out hq]; rfl), rfl⟩)
    · obtain rfl : k = s.length := by omega
      have ha := HP.out
      rw [List.take_length] at ha
      have HRR : Hid (r = (decide (1 ≤ s.length) && decide (s.length ≤ 30))) := Lib.hid (by rw [← HR.out]; unfold nameB; rw [ha, Bool.true_and])
      clear ha HP HR
      obtain ⟨n, hn⟩ : ∃ n, s.length = n := ⟨_, rfl⟩
      go_wp2_with fail
      all_goals (go_ret; exact ⟨ret_bool (by rw [HRR.out, hn, Bool.eq_iff_iff]; simp; try omega), rfl⟩)
end Go.Proofs.Ytknldomgmogccaa
