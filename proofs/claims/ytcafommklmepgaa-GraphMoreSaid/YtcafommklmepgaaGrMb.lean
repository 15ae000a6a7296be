/- GraphMore's mathematics, second part: an object that nobody names, and that is not in the order, turns no beginning. -/
import Derived.Test.YtcafommklmepgaaGrF
import Derived.Test.YtcafommklmepgaaGrMa
namespace Go.Proofs.Ytcafommklmepgaa
set_option linter.unusedVariables false
set_option linter.unusedSimpArgs false

theorem needsI_more {l : List Obj} {x : Obj} (hu : Unnamed l x) {k : Nat} (hk : k < l.length) : needsI (l ++ [x]) k = needsI l k := by
  unfold needsI
  rw [needsAt_more hk, needsAt_eq l k hk]
  exact List.map_congr_left fun n hn => fidx_more (hu _ (List.getElem_mem hk) n hn)
theorem waitB_more {l : List Obj} {x : Obj} {ord met : List Nat} (ho : ∀ k ∈ ord, k < l.length) (k : Nat) : waitB (l ++ [x]) ord met k = waitB l ord met k := by
  unfold waitB
  by_cases hk : k < l.length
  · have h2 : k < (l ++ [x]).length := by simp; omega
    rw [decide_eq_true hk, decide_eq_true h2]
  · have hc : ord.contains k = false := by
      rw [List.contains_eq_mem]
      exact decide_eq_false fun hm => hk (ho k hm)
    rw [hc]
    simp
theorem Vis.more {l : List Obj} {x : Obj} {ord m o m1 o1 : List Nat} {ks : List (Option Nat)} (hu : Unnamed l x) (ho : ∀ k ∈ ord, k < l.length) (h : Vis l ord m o ks m1 o1) : Vis (l ++ [x]) ord m o ks m1 o1 := by
  induction h with
  | nil m o => exact .nil m o
  | none _ ih => exact .none ih
  | skip hw _ ih => exact .skip ((waitB_more ho _).trans hw) ih
  | go hw _ _ ih1 ih2 =>
    refine .go ((waitB_more ho _).trans hw) ?_ ih2
    have hk := hw
    unfold waitB at hk
    simp only [Bool.and_eq_true, decide_eq_true_eq] at hk
    rw [needsI_more hu hk.1]
    exact ih1
end Go.Proofs.Ytcafommklmepgaa
