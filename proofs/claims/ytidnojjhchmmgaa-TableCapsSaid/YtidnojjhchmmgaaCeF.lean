/- Contracts of slices.Contains, and of namesFit. -/
import Derived.Test.YtidnojjhchmmgaaCeC
import Derived.Laws.Strings
namespace Go.Proofs.Ytidnojjhchmmgaa
set_option linter.unusedVariables false
set_option linter.unusedSimpArgs false
open Go.Joins Go.ChangeShapes Go.WideShapes Go.ChangeAt Go.RowKit

theorem needsB_step (name : List UInt8) (l : List (List UInt8)) (k : Nat) (h : k < l.length) : needsB name l k = ((nameB l[k] && (l[k] != name && !(l.take k).contains l[k])) && needsB name l (k + 1)) := by
  unfold needsB
  obtain ⟨d, hd⟩ : ∃ d, l.length - k = d + 1 := ⟨l.length - k - 1, by omega⟩
  rw [hd, show l.length - (k + 1) = d by omega, List.range_succ_eq_map, List.all_cons, List.all_map]
  simp only [Nat.add_zero, List.getElem?_eq_getElem h]
  congr 1
  apply congrArg
  funext i
  simp only [Function.comp, Nat.succ_eq_add_one, show k + (i + 1) = k + 1 + i by omega]
theorem needsB_end (name : List UInt8) (l : List (List UInt8)) (k : Nat) (h : l.length ≤ k) : needsB name l k = true := by
  unfold needsB
  rw [show l.length - k = 0 by omega]
  rfl
theorem rd_take {w : World} {g off m k : Nat} {l : List (List UInt8)} (h : Rd w (some ⟨g, off, none⟩) m (txs l)) (hk : k ≤ m) : Rd w (some ⟨g, off, none⟩) k (txs (l.take k)) := by
  refine ⟨by have := h.1; simp [txs] at this ⊢; omega, fun h0 => ?_⟩
  obtain ⟨b, o, e, hl, hc⟩ := h.2 (by omega)
  refine ⟨b, o, e, hl, fun j hj => ?_⟩
  rw [hc j (by omega)]
  simp [txs, List.getElem?_take, hj]
end Go.Proofs.Ytidnojjhchmmgaa
