/- The document's memory: a number put among others: contract. -/
import Derived.Test.YteaididdamihlaaTmQ
namespace Go.Proofs.Yteaididdamihlaa
set_option linter.unusedVariables false
set_option linter.unusedSimpArgs false
open Go.Joins Go.ChangeShapes Go.WideShapes Go.ChangeAt Go.RowKit Go.Deep

/-- how far a number is put among others -/
def PutInv (p : Nat) (l : List Nat) (k : Nat) (xs : List Nat) (dn : Bool) : Prop := (dn = true → xs ++ l.drop k = ins p l ∧ xs.length = k + 1) ∧ (dn = false → xs = l.take k ∧ l.take k ++ ins p (l.drop k) = ins p l)
theorem putInv_start (p : Nat) (l : List Nat) : PutInv p l 0 [] false := ⟨fun h => (by cases h), fun _ => ⟨by simp, by simp⟩⟩
theorem putInv_step {p : Nat} {l : List Nat} {k : Nat} {xs : List Nat} (h : PutInv p l k xs true) (hk : k < l.length) : PutInv p l (k + 1) (xs ++ [l[k]]) true := by
  obtain ⟨h1, h2⟩ := h.1 rfl
  refine ⟨fun _ => ⟨?_, by rw [List.length_append, h2]; rfl⟩, fun e => (by cases e)⟩
  rw [← h1, List.drop_eq_getElem_cons hk]
  simp
theorem putInv_here {p : Nat} {l : List Nat} {k : Nat} {xs : List Nat} (h : PutInv p l k xs false) (hk : k < l.length) (hp : p < l[k]) : PutInv p l (k + 1) (xs ++ [p] ++ [l[k]]) true := by
  obtain ⟨h1, h2⟩ := h.2 rfl
  refine ⟨fun _ => ⟨?_, by rw [List.length_append, List.length_append, h1, List.length_take]; simp; omega⟩, fun e => (by cases e)⟩
  rw [← h2, List.drop_eq_getElem_cons hk]
  unfold ins
  rw [if_pos hp, h1]
  simp
theorem putInv_past {p : Nat} {l : List Nat} {k : Nat} {xs : List Nat} (h : PutInv p l k xs false) (hk : k < l.length) (hp : ¬ p < l[k]) : PutInv p l (k + 1) (xs ++ [l[k]]) false := by
  obtain ⟨h1, h2⟩ := h.2 rfl
  refine ⟨fun e => (by cases e), fun _ => ⟨?_, ?_⟩⟩
  · rw [h1, List.take_succ_eq_append_getElem hk]
  · rw [← h2, List.drop_eq_getElem_cons hk, List.take_succ_eq_append_getElem hk]
    rw [show ins p (l[k] :: l.drop (k + 1)) = l[k] :: ins p (l.drop (k + 1)) from if_neg hp, List.append_assoc]
    rfl
theorem putInv_end {p : Nat} {l xs : List Nat} {dn : Bool} (h : PutInv p l l.length xs dn) : (if dn then xs else xs ++ [p]) = ins p l := by
  cases dn with
  | true =>
    obtain ⟨h1, -⟩ := h.1 rfl
    rw [List.drop_length, List.append_nil] at h1
    exact h1
  | false =>
    obtain ⟨h1, h2⟩ := h.2 rfl
    rw [List.drop_length, List.take_length] at h2
    rw [List.take_length] at h1
    rw [← h2, h1]
    rfl
end Go.Proofs.Yteaididdamihlaa
