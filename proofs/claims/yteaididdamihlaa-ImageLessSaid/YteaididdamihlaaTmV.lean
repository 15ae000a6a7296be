/- The document's memory: numbers are loaded and stored, bytes put and told: contracts. -/
import Derived.Test.YteaididdamihlaaTmU
namespace Go.Proofs.Yteaididdamihlaa
set_option linter.unusedVariables false
set_option linter.unusedSimpArgs false
open Go.Joins Go.ChangeShapes Go.WideShapes Go.ChangeAt Go.RowKit Go.Deep

theorem numE_fits {m : Mm} (hk : Okm m) {a : Nat} {n : Int} (he : numE m a n = 0) : ∃ k : Nat, n = k ∧ 1 ≤ k ∧ k ≤ 8 ∧ a + k ≤ 16777216 ∧ ∀ i, i < k → (a + i) / 256 ∈ m.pgs := by
  rcases num_place (fun _ => 0) m a n with ⟨-, hn, hal, hin, -⟩ | ⟨h, -⟩
  · obtain ⟨k, rfl⟩ : ∃ k : Nat, n = k := ⟨n.toNat, by omega⟩
    rw [Int.toNat_natCast] at hal
    have hp := hk.pl _ hin
    have hkk : k = 1 ∨ k = 2 ∨ k = 4 ∨ k = 8 := by omega
    have hf : a % 256 + k ≤ 256 := by rcases hkk with rfl | rfl | rfl | rfl <;> omega
    exact ⟨k, rfl, by omega, by omega, by omega, fun i hi => by rw [show (a + i) / 256 = a / 256 by omega]; exact hin⟩
  · exact absurd he h
end Go.Proofs.Yteaididdamihlaa
