/- The names of a scope, sorted and compacted: plain mathematics. -/
import Derived.Test.YthammjpadbbflaaLkW
namespace Go.Proofs.Ythammjpadbbflaa
set_option linter.unusedVariables false
set_option linter.unusedSimpArgs false
open Go.Lib

/-- two rows strictly in order that have the same members are one -/
theorem strict_ext {α : Type} (R : α → α → Prop) (ha : ∀ a b, R a b → R b a → a = b) (x y : List α) (hx : x.Pairwise fun a b => R a b ∧ a ≠ b) (hy : y.Pairwise fun a b => R a b ∧ a ≠ b) (h : ∀ z, z ∈ x ↔ z ∈ y) : x = y := by
  induction x generalizing y with
  | nil =>
    cases y with
    | nil => rfl
    | cons b s => exact absurd ((h b).2 (List.mem_cons_self ..)) (by simp)
  | cons a t ih =>
    cases y with
    | nil => exact absurd ((h a).1 (List.mem_cons_self ..)) (by simp)
    | cons b s =>
      obtain ⟨hx1, hx2⟩ := List.pairwise_cons.1 hx
      obtain ⟨hy1, hy2⟩ := List.pairwise_cons.1 hy
      have hab : a = b := by
        rcases List.mem_cons.1 ((h a).1 (List.mem_cons_self ..)) with e | e
        · exact e
        · rcases List.mem_cons.1 ((h b).2 (List.mem_cons_self ..)) with f | f
          · exact f.symm
          · exact ha _ _ (hx1 b f).1 (hy1 a e).1
      subst hab
      rw [ih s hx2 hy2 (fun z => ⟨fun hz => by
        rcases List.mem_cons.1 ((h z).1 (List.mem_cons_of_mem _ hz)) with e | e
        · exact absurd e.symm (hx1 z hz).2
        · exact e, fun hz => by
        rcases List.mem_cons.1 ((h z).2 (List.mem_cons_of_mem _ hz)) with e | e
        · exact absurd e.symm (hy1 z hz).2
        · exact e⟩)]
theorem sortL_pairwise (z : List (List UInt8)) : (sortL z).Pairwise (· ≤ ·) := by
  have h := List.pairwise_mergeSort (le := fun (x y : List UInt8) => decide (x ≤ y)) (fun a b c hab hbc => by
    simp only [decide_eq_true_eq] at hab hbc ⊢
    exact List.le_trans hab hbc) (fun a b => by
    simp only [Bool.or_eq_true, decide_eq_true_eq]
    exact List.le_total a b) z
  exact h.imp (fun hab => by simpa using hab)
theorem allL_strict (l : List Ob) (sc : List Nat) : (allL l sc).Pairwise fun a b => a ≤ b ∧ a ≠ b :=
  compact_strict (· ≤ ·) (fun a b c hab hbc => List.le_trans hab hbc) (fun a b hab hba => List.le_antisymm hab hba) _ (sortL_pairwise _)
theorem mem_allL (l : List Ob) (sc : List Nat) (s : List UInt8) : s ∈ allL l sc ↔ s ∈ namesL l sc := by
  unfold allL
  rw [mem_compact]
  unfold sortL
  exact List.mem_mergeSort
theorem allL_twice (l : List Ob) (sc : List Nat) : allL l (sc ++ sc) = allL l sc :=
  strict_ext (· ≤ ·) (fun a b hab hba => List.le_antisymm hab hba) _ _ (allL_strict _ _) (allL_strict _ _) (fun z => by
    rw [mem_allL, mem_allL]
    simp [namesL])
theorem allL_nil (l : List Ob) : allL l [] = [] := by
  refine List.eq_nil_iff_forall_not_mem.2 fun s hs => ?_
  rw [mem_allL] at hs
  simp [namesL] at hs
end Go.Proofs.Ythammjpadbbflaa
