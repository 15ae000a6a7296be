/- May this be a capability: the document's Right: contract. -/
import Derived.Test.YtgfkjlknkbdjiaaTmQ
namespace Go.Proofs.Ytgfkjlknkbdjiaa
set_option linter.unusedVariables false
set_option linter.unusedSimpArgs false
open Go.Joins Go.ChangeShapes Go.WideShapes Go.ChangeAt Go.RowKit Go.Deep

def rightB (c : Cp) : Bool := decide (0 ≤ c.p) && (decide (c.p ≤ 255) && (decide (-1 ≤ c.y) && decide (c.y ≤ 63)))
theorem right_any (c : Cp) (w : World) :
    Calls Try.prog 18 #[.agg (capC c).toArray] w fun e w' => e = .returned (.bool (rightB c)) ∧ Below w.heap.size w w' := by
  obtain ⟨cb, ct, ca, cp, cy, cg⟩ := c
  have hcc : (capC ⟨cb, ct, ca, cp, cy, cg⟩).toArray = #[.int .u64 cb, .int .u64 ct, .int .u64 ca, .int .i64 cp, .int .i64 cy, .bool cg] := rfl
  rw [hcc]
  clear hcc
  obtain ⟨q, hq⟩ : ∃ q, rightB ⟨cb, ct, ca, cp, cy, cg⟩ = q := ⟨_, rfl⟩
  rw [hq]
  have hq2 : (decide (0 ≤ cp) && (decide (cp ≤ 255) && (decide (-1 ≤ cy) && decide (cy ≤ 63)))) = q := hq
  clear hq
  by_cases a1 : 0 ≤ cp
  · by_cases a2 : cp ≤ 255
    · by_cases a3 : -1 ≤ cy
      · by_cases a4 : cy ≤ 63
        · have hqt : true = q := by rw [← hq2, decide_eq_true a1, decide_eq_true a2, decide_eq_true a3, decide_eq_true a4]; rfl
          subst hqt
          clear hq2
          go_enter Try.func18, Try.ntmps18
          go_wp2_with fail
          go_ret
          exact ⟨rfl, bAlloc (Below.refl _ _) _⟩
        · have hqf : false = q := by rw [← hq2, decide_eq_false a4]; simp
          subst hqf
          clear hq2
          go_enter Try.func18, Try.ntmps18
          go_wp2_with fail
          go_ret
          exact ⟨rfl, bAlloc (Below.refl _ _) _⟩
      · have hqf : false = q := by rw [← hq2, decide_eq_false a3]; simp
        subst hqf
        clear hq2
        go_enter Try.func18, Try.ntmps18
        go_wp2_with fail
        go_ret
        exact ⟨rfl, bAlloc (Below.refl _ _) _⟩
    · have hqf : false = q := by rw [← hq2, decide_eq_false a2]; simp
      subst hqf
      clear hq2
      go_enter Try.func18, Try.ntmps18
      go_wp2_with fail
      go_ret
      exact ⟨rfl, bAlloc (Below.refl _ _) _⟩
  · have hqf : false = q := by rw [← hq2, decide_eq_false a1]; simp
    subst hqf
    clear hq2
    go_enter Try.func18, Try.ntmps18
    go_wp2_with fail
    go_ret
    exact ⟨rfl, bAlloc (Below.refl _ _) _⟩
end Go.Proofs.Ytgfkjlknkbdjiaa
