/- The document's memory: pages are unmapped: contract. -/
import Derived.Test.YteaididdamihlaaTmW
namespace Go.Proofs.Yteaididdamihlaa
set_option linter.unusedVariables false
set_option linter.unusedSimpArgs false
open Go.Joins Go.ChangeShapes Go.WideShapes Go.ChangeAt Go.RowKit Go.Deep

theorem mks_del (l : List Nat) (p : Nat) : (l.map (32 * ·)).filter (fun g => g / 256 != p) = (l.filter (fun g => g / 8 != p)).map (32 * ·) := by
  induction l with
  | nil => rfl
  | cons x r ih =>
    rw [List.map_cons]
    have e : 32 * x / 256 = x / 8 := by omega
    by_cases h : x / 8 = p
    · rw [List.filter_cons_of_neg (by rw [e]; simpa using h), List.filter_cons_of_neg (by simpa using h), ih]
    · rw [List.filter_cons_of_pos (by rw [e]; simpa using h), List.filter_cons_of_pos (by simpa using h), List.map_cons, ih]
theorem look_del (cs : List (Nat × Nat)) (p x : Nat) : lookF (cs.filter (fun c => c.1 / 256 != p)) x = if x / 256 = p then 0 else lookF cs x := by
  induction cs with
  | nil => simp [lookF]
  | cons c r ih =>
    by_cases e : c.1 / 256 = p
    · rw [List.filter_cons_of_neg (by simpa using e), ih]
      by_cases hx : x / 256 = p
      · rw [if_pos hx, if_pos hx]
      · rw [if_neg hx, if_neg hx]
        conv => rhs; unfold lookF
        rw [if_neg (fun h => hx (by rw [← h]; exact e))]
    · rw [List.filter_cons_of_pos (by simpa using e)]
      conv => lhs; unfold lookF
      rw [ih]
      by_cases hx : x / 256 = p
      · rw [if_pos hx, if_neg (fun h => e (by rw [h]; exact hx)), if_pos hx]
      · rw [if_neg hx, if_neg hx]
        conv => rhs; unfold lookF
theorem CellsOk.del {cs : List (Nat × Nat)} {m : Mm} (h : CellsOk cs m) (p : Nat) : CellsOk (cs.filter (fun c => c.1 / 256 != p)) (delP m p) := by
  refine ⟨fun x => ?_, fun c hc => ?_, List.Nodup.sublist (List.Sublist.map _ List.filter_sublist) h.nd⟩
  · rw [look_del, h.look]
    rfl
  · obtain ⟨h1, h2⟩ := List.mem_filter.1 hc
    obtain ⟨h3, h4⟩ := h.in_ c h1
    exact ⟨List.mem_filter.2 ⟨h3, by simpa using h2⟩, h4⟩
end Go.Proofs.Yteaididdamihlaa
