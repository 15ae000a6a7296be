/- Boxes of six cells: small lemmas. -/
import Derived.Test.YtidnojjhchmmgaaTaD
namespace Go.Proofs.Ytidnojjhchmmgaa
set_option linter.unusedVariables false
set_option linter.unusedSimpArgs false
open Go.Joins Go.ChangeShapes Go.WideShapes Go.ChangeAt Go.RowKit Go.Deep

theorem boxN_set6 {W : World} {B : Nat} {u0 u1 u2 u3 u4 u5 : Value} (h : BoxN W B #[u0, u1, u2, u3, u4, u5]) (v0 v1 v2 v3 v4 v5 : Value) :
    BoxN ((((((W.setCell ⟨B, 0, none⟩ v0).setCell ⟨B, 1, none⟩ v1).setCell ⟨B, 2, none⟩ v2).setCell ⟨B, 3, none⟩ v3).setCell ⟨B, 4, none⟩ v4).setCell ⟨B, 5, none⟩ v5) B #[v0, v1, v2, v3, v4, v5] :=
  (((((h.set 0 v0).set 1 v1).set 2 v2).set 3 v3).set 4 v4).set 5 v5
theorem boxN_far {W : World} {B b : Nat} {cs : Array Value} (h : BoxN W B cs) (p : Nat) (v : Value) (hne : b ≠ B) : BoxN (W.setCell ⟨b, p, none⟩ v) B cs := by
  obtain ⟨t, ht⟩ := h
  exact ⟨t, (Below.heap_setCell _ _ _ _ (Ne.symm hne)).trans ht⟩
theorem boxN_keep6 {W : World} {B b : Nat} {cs : Array Value} (h : BoxN W B cs) (v0 v1 v2 v3 v4 v5 : Value) (hne : b ≠ B) :
    BoxN ((((((W.setCell ⟨b, 0, none⟩ v0).setCell ⟨b, 1, none⟩ v1).setCell ⟨b, 2, none⟩ v2).setCell ⟨b, 3, none⟩ v3).setCell ⟨b, 4, none⟩ v4).setCell ⟨b, 5, none⟩ v5) B cs :=
  boxN_far (boxN_far (boxN_far (boxN_far (boxN_far (boxN_far h _ _ hne) _ _ hne) _ _ hne) _ _ hne) _ _ hne) _ _ hne
theorem perm_or (f : Int) (h1 : 1 ≤ f) (h5 : f ≤ 5) : bits .or .i64 (permF f) 128 = permF f + 128 ∧ IntKind.i64.wrap (permF f + 128) = permF f + 128 := by
  rcases (show f = 1 ∨ f = 2 ∨ f = 3 ∨ f = 4 ∨ f = 5 by omega) with rfl | rfl | rfl | rfl | rfl <;> decide
theorem drewc {W : World} {p : Addr} {v : Value} (h : W.cell? p = some v) : W.drew.cell? p = some v := h
end Go.Proofs.Ytidnojjhchmmgaa
