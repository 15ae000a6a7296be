/- Compacted rows: members; order. -/
import Derived.Test.YthammjpadbbflaaLkQ
import Derived.Lib.SlicesCompact
namespace Go.Proofs.Ythammjpadbbflaa
set_option linter.unusedVariables false
set_option linter.unusedSimpArgs false
open Go.Lib

theorem kept_some {α : Type} [Inhabited α] [DecidableEq α] (d : Array α) (j : Nat) : ∃ i, i ≤ j ∧ keeps d i = true ∧ d[i]! = d[j]! := by
  induction j with
  | zero => exact ⟨0, Nat.le_refl _, by simp [keeps], rfl⟩
  | succ j ih =>
    by_cases h : d[j + 1]! = d[j]!
    · obtain ⟨i, h1, h2, h3⟩ := ih
      exact ⟨i, by omega, h2, h3.trans h.symm⟩
    · exact ⟨j + 1, Nat.le_refl _, keeps_pos (by simpa using h), rfl⟩
theorem mem_compact {α : Type} [Inhabited α] [DecidableEq α] (zs : List α) (x : α) : x ∈ compact zs ↔ x ∈ zs := by
  unfold compact compactUpTo
  rw [List.mem_map]
  constructor
  · rintro ⟨i, hi, rfl⟩
    have h1 : i < zs.length := List.mem_range.1 (List.mem_filter.1 hi).1
    have h2 : zs.toArray[i]! = zs[i] := by simp [getElem!_pos, h1]
    rw [h2]
    exact List.getElem_mem h1
  · intro h
    obtain ⟨j, hj, rfl⟩ := List.getElem_of_mem h
    obtain ⟨i, h1, h2, h3⟩ := kept_some zs.toArray j
    refine ⟨i, List.mem_filter.2 ⟨List.mem_range.2 (by omega), h2⟩, h3.trans ?_⟩
    simp [getElem!_pos, hj]
/-- a row in order is, compacted, strictly in order -/
theorem compact_strict {α : Type} [Inhabited α] [DecidableEq α] (R : α → α → Prop) (ht : ∀ a b c, R a b → R b c → R a c) (ha : ∀ a b, R a b → R b a → a = b) (zs : List α) (hs : zs.Pairwise R) : (compact zs).Pairwise fun a b => R a b ∧ a ≠ b := by
  have hg : ∀ i j, i < j → (hj : j < zs.length) → R zs.toArray[i]! zs.toArray[j]! := by
    intro i j hij hj
    have e1 : zs.toArray[i]! = zs[i] := by simp [getElem!_pos, show i < zs.length by omega]
    have e2 : zs.toArray[j]! = zs[j] := by simp [getElem!_pos, hj]
    rw [e1, e2]
    exact List.pairwise_iff_getElem.1 hs i j (by omega) hj hij
  unfold compact compactUpTo
  rw [List.pairwise_map]
  refine (List.Pairwise.filter (keeps zs.toArray) (List.pairwise_lt_range (n := zs.length))).imp_of_mem ?_
  intro i j hi hj hij
  have hjl : j < zs.length := List.mem_range.1 (List.mem_filter.1 hj).1
  have hk := (List.mem_filter.1 hj).2
  have h1 := hg i j hij hjl
  refine ⟨h1, fun e => ?_⟩
  have hne : zs.toArray[j]! ≠ zs.toArray[j - 1]! := by
    simp only [keeps, decide_eq_true_eq] at hk
    rcases hk with hk | hk
    · omega
    · exact hk
  rcases Nat.lt_or_ge i (j - 1) with h | h
  · have h2 := hg i (j - 1) h (by omega)
    have h3 := hg (j - 1) j (by omega) hjl
    rw [e] at h2
    exact hne (ha _ _ h2 h3)
  · have : i = j - 1 := by omega
    rw [this] at e
    exact hne e.symm
end Go.Proofs.Ythammjpadbbflaa
