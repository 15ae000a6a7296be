/- slices.Reverse and End: contracts. -/
import Derived.Test.YtfneikphgmjfbaaGrN
import Derived.Deep.Cut
import Derived.Deep.DeepCutAuto
import Derived.Deep.RegionLaw
import Derived.BigRegion
import Derived.IntWalk
namespace Go.Proofs.Ytfneikphgmjfbaa
set_option linter.unusedVariables false
set_option linter.unusedSimpArgs false
open Go.Joins Go.ChangeShapes Go.WideShapes Go.ChangeAt Go.RowKit

/-- a row of which i numbers at each end have changed places -/
def Rev (z y : List Int) (i : Nat) : Prop := y.length = z.length ∧ ∀ p (h1 : p < y.length) (h2 : p < z.length), y[p] = if p < i ∨ z.length - i ≤ p then z[z.length - 1 - p]'(by omega) else z[p]
theorem Rev.zero (z : List Int) : Rev z z 0 := ⟨rfl, fun p h1 h2 => by rw [if_neg (by omega)]⟩
theorem Rev.done {z y : List Int} {i : Nat} (h : Rev z y i) (hi : z.length ≤ 2 * i + 1) : y = z.reverse := by
  refine List.ext_getElem (by rw [h.1, List.length_reverse]) fun p h1 h2 => ?_
  have hp : p < z.length := by rw [h.1] at h1; exact h1
  rw [h.2 p h1 hp, List.getElem_reverse]
  by_cases e : p < i ∨ z.length - i ≤ p
  · rw [if_pos e]
  · rw [if_neg e]
    congr 1
    omega
theorem Rev.next {z y : List Int} {i : Nat} (h : Rev z y i) (hi : 2 * i + 1 < z.length) (hy1 : i < y.length) (hy2 : z.length - 1 - i < y.length) : Rev z ((y.set i y[z.length - 1 - i]).set (z.length - 1 - i) y[i]) (i + 1) := by
  have hl := h.1
  refine ⟨by simp [hl], fun p h1 h2 => ?_⟩
  rw [List.getElem_set]
  by_cases e1 : z.length - 1 - i = p
  · subst e1
    rw [if_pos rfl, if_pos (by omega), h.2 i hy1 (by omega), if_neg (by omega)]
    congr 1
    omega
  · rw [if_neg e1, List.getElem_set]
    by_cases e2 : i = p
    · subst e2
      rw [if_pos rfl, if_pos (by omega), h.2 _ hy2 (by omega), if_neg (by omega)]
    · rw [if_neg e2, h.2 p (by omega) h2]
      by_cases e : p < i ∨ z.length - i ≤ p
      · rw [if_pos e, if_pos (by omega)]
      · rw [if_neg e, if_neg (by omega)]
def EndPost (w : World) (l : List Obj) (ord : List Nat) (e : Ending) (w' : World) : Prop :=
  ∃ a c m1 o1, e = .returned (.slice a o1.length c) ∧ Vis l ord [] [] (ord.map some) m1 o1 ∧ w'.ownsRow w.heap.size 3 1 (.slice a o1.length c) o1.length (i64s (ordZ o1).reverse) ∧ GoodO l m1 o1 ∧ Below w.heap.size w w'
end Go.Proofs.Ytfneikphgmjfbaa
