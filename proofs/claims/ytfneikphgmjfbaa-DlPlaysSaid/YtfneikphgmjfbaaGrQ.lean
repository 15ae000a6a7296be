/- GraphBegins: its walk. -/
import Derived.Test.YtfneikphgmjfbaaGrO
import Derived.Test.YtfneikphgmjfbaaGrP
import Derived.Test.YtfneikphgmjfbaaGrJ
namespace Go.Proofs.Ytfneikphgmjfbaa
set_option linter.unusedVariables false
set_option linter.unusedSimpArgs false
open Go.Joins Go.ChangeShapes Go.WideShapes Go.ChangeAt Go.RowKit

theorem max_le {n : Nat} (h : n ≤ maxLen) : n ≤ 9223372036854775807 := by unfold maxLen at h; omega
theorem ordZ_length (o : List Nat) : (ordZ o).length = o.length := by simp [ordZ]
theorem ordZ_inj_nodup (o : List Nat) (h : (ordZ o).Nodup) : o.Nodup := by
  unfold ordZ at h
  exact List.Pairwise.of_map _ (fun a b hab e => hab (by rw [e])) h
theorem right_ord {z : List Int} {n : Nat} (h : rightB z n = true) : ∃ o : List Nat, z = ordZ o ∧ (∀ k ∈ o, k < n) ∧ o.length ≤ n := by
  unfold rightB at h
  have h := of_decide_eq_true h
  obtain ⟨o, rfl, ho⟩ := right_nats z n h.1
  exact ⟨o, rfl, ho, nodup_le _ _ (ordZ_inj_nodup o h.2) ho⟩
end Go.Proofs.Ytfneikphgmjfbaa
