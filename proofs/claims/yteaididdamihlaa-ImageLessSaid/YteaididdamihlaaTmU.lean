/- The document's memory: bytes are written and read; what is wrong with a place: contracts. -/
import Derived.Test.YteaididdamihlaaTmT
namespace Go.Proofs.Yteaididdamihlaa
set_option linter.unusedVariables false
set_option linter.unusedSimpArgs false
open Go.Joins Go.ChangeShapes Go.WideShapes Go.ChangeAt Go.RowKit Go.Deep

theorem RmAt.mono {W : World} {R : Nat} {F F' : Nat → Prop} {m : Mm} (h : RmAt W R F m) (hf : ∀ b, F b → F' b) (hl : ∀ b, F' b → b < W.heap.size) : RmAt W R F' m := by
  obtain ⟨na, ca, ka, nc, cc, kc, cs, h⟩ := h
  exact ⟨na, ca, ka, nc, cc, kc, cs, h.ok, h.box, h.rn.mono hf, h.rc.mono hf, h.rk.mono hf, h.co, hf _ h.fr, hl⟩
/-- F, and what is new between two worlds -/
def FN (F : Nat → Prop) (W W' : World) : Nat → Prop := fun q => F q ∨ (W.heap.size ≤ q ∧ q < W'.heap.size)
theorem u8s_snoc (l : List Nat) (x : Nat) : u8s (l ++ [x]) = u8s l ++ [.int .u8 (x : Int)] := by simp [u8s]
theorem manyB_succ (m : Mm) (x k : Nat) : manyB m x (k + 1) = manyB m x k ++ [m.by_ (x + k)] := by rw [manyB_add]; rfl
end Go.Proofs.Yteaididdamihlaa
