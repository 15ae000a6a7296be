/- An object as it comes in, by value. -/
import Derived.Test.YtcafommklmepgaaGrMe
import Derived.Test.YtcafommklmepgaaGrP
namespace Go.Proofs.Ytcafommklmepgaa
set_option linter.unusedVariables false
set_option linter.unusedSimpArgs false
open Go.Joins Go.ChangeShapes Go.WideShapes Go.ChangeAt Go.RowKit Go.Deep
section
variable {H : Type} {enc : TypeId × Value → H}
theorem open_obj {w : World} {r : Reach} {b0 : Nat} {v : Value} {d : DataW H} {p : List MemPlace}
    (hv : Value.okWide Try.prog w r b0 43 v) (h : DataW.Trod enc Try.prog w 0 (fun _ => true) true 43 v d p) :
    ∃ o : Obj, v = .agg (objC o).toArray ∧ Rd w o.na o.needs.length (txs o.needs) ∧ (o.name.length ≤ maxLen ∧ ∀ n ∈ o.needs, n.length ≤ maxLen) ∧ o.needs.length ≤ maxLen := by
  obtain ⟨cs, rfl, hsz⟩ := okWide_struct Try.underlying43 hv
  obtain ⟨fuel, hf⟩ := h
  obtain ⟨o, hs, k0, k1, k2⟩ := obj_of hf
  refine ⟨o, ?_, k0, k1, k2⟩
  simp only [Value.cells] at hs
  rw [← hs]
end
end Go.Proofs.Ytcafommklmepgaa
