/- Where capabilities stand: contract. -/
import Derived.Test.YteaididdamihlaaSo5
namespace Go.Proofs.Yteaididdamihlaa
set_option linter.unusedVariables false
set_option linter.unusedSimpArgs false
open Go.Joins Go.ChangeShapes Go.WideShapes Go.ChangeAt Go.RowKit Go.Deep

/-- a page's granules with a tag, of the first k -/
def tagL (mks : List Nat) (p k : Nat) : List Nat := ((List.range k).filter fun i => decide (8 * p + i ∈ mks)).map fun i => 8 * p + i
theorem tagL_succ (mks : List Nat) (p k : Nat) : tagL mks p (k + 1) = tagL mks p k ++ if 8 * p + k ∈ mks then [8 * p + k] else [] := by
  unfold tagL
  rw [List.range_succ, List.filter_append, List.map_append]
  congr 1
  by_cases h : 8 * p + k ∈ mks
  · simp [h]
  · simp [h]
theorem tagL_len (mks : List Nat) (p k : Nat) : (tagL mks p k).length ≤ k := by
  unfold tagL
  rw [List.length_map]
  exact Nat.le_trans (List.length_filter_le _ _) (by simp)
theorem mem_tagL {mks : List Nat} {p k x : Nat} : x ∈ tagL mks p k ↔ x ∈ mks ∧ 8 * p ≤ x ∧ x < 8 * p + k := by
  unfold tagL
  simp only [List.mem_map, List.mem_filter, List.mem_range, decide_eq_true_eq]
  constructor
  · rintro ⟨i, ⟨h1, h2⟩, rfl⟩
    exact ⟨h2, by omega, by omega⟩
  · rintro ⟨h1, h2, h3⟩
    exact ⟨x - 8 * p, ⟨by omega, by rwa [show 8 * p + (x - 8 * p) = x by omega]⟩, by omega⟩
def tagsTo (mks pgs : List Nat) (j : Nat) : List Nat := (pgs.take j).flatMap fun p => tagL mks p 8
theorem tagsTo_succ (mks pgs : List Nat) (j : Nat) (h : j < pgs.length) : tagsTo mks pgs (j + 1) = tagsTo mks pgs j ++ tagL mks pgs[j] 8 := by
  unfold tagsTo
  rw [List.take_succ_eq_append_getElem h, List.flatMap_append]
  simp
theorem tagsTo_len (mks pgs : List Nat) (j : Nat) : (tagsTo mks pgs j).length ≤ 8 * j := by
  induction j with
  | zero => simp [tagsTo]
  | succ j ih =>
    by_cases h : j < pgs.length
    · rw [tagsTo_succ _ _ _ h, List.length_append]
      have := tagL_len mks pgs[j] 8
      omega
    · have : tagsTo mks pgs (j + 1) = tagsTo mks pgs j := by
        unfold tagsTo
        rw [List.take_of_length_le (by omega), List.take_of_length_le (by omega)]
      rw [this]
      omega
theorem rise_tagL (mks : List Nat) (p k : Nat) : Rise (tagL mks p k) := by
  unfold tagL
  refine List.pairwise_map.2 (List.Pairwise.filter _ ?_)
  exact List.Pairwise.imp (fun h => by omega) List.pairwise_lt_range
theorem rise_tags (mks : List Nat) : ∀ (l : List Nat), Rise l → Rise (l.flatMap fun p => tagL mks p 8) := by
  intro l
  induction l with
  | nil => intro _; exact List.Pairwise.nil
  | cons p r ih =>
    intro h
    have hp := List.pairwise_cons.1 h
    rw [List.flatMap_cons]
    refine List.pairwise_append.2 ⟨rise_tagL _ _ _, ih hp.2, fun x hx y hy => ?_⟩
    obtain ⟨q, hq, hy⟩ := List.mem_flatMap.1 hy
    have h1 := mem_tagL.1 hx
    have h2 := mem_tagL.1 hy
    have h3 := hp.1 q hq
    omega
theorem tags_all {m : Mm} (h : Okm m) : tagsTo m.mks m.pgs m.pgs.length = m.mks := by
  unfold tagsTo
  rw [List.take_length]
  refine rise_ext (rise_tags _ _ h.pr) h.mr fun x => ?_
  rw [List.mem_flatMap]
  constructor
  · rintro ⟨p, _, hx⟩
    exact (mem_tagL.1 hx).1
  · intro hx
    exact ⟨x / 8, h.ml x hx, mem_tagL.2 ⟨hx, by omega, by omega⟩⟩
end Go.Proofs.Yteaididdamihlaa
