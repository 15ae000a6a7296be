/- AbiLess: the walk. -/
import Derived.Test.YtjefkhieihigiaaGreatAbU
namespace Go.Proofs.YtjefkhieihigiaaGreat
set_option linter.unusedVariables false
set_option linter.unusedSimpArgs false
open Go.Joins Go.ChangeShapes Go.WideShapes Go.ChangeAt Go.RowKit Go.Deep

/-- the caller's rows -/
theorem RdT.old {W W' : World} {N M : Nat} {F : Nat → Prop} {m : Mm} {a : Option Addr} {l : List (List UInt8)} (h : Own1 W' N F M m) (hr : Rd W a l.length (strs l)) (hb : Below N W W') (hN : W.heap.size = N) : RdT W' F a l := by
  subst hN
  refine ⟨hr.below hb, fun g off h0 e => ?_⟩
  obtain ⟨g', off', e', hl, -⟩ := hr.2 h0
  rw [e] at e'
  cases e'
  exact ⟨fun hf => by have := h.ge _ hf; omega, Nat.lt_of_lt_of_le hl hb.size⟩
theorem RdC.old {W W' : World} {N M : Nat} {F : Nat → Prop} {m : Mm} {a : Option Addr} {l : List Cp} (h : Own1 W' N F M m) (hr : Rd W a (l.length * 6) (capsV l)) (hb : Below N W W') (hN : W.heap.size = N) : RdC W' F a l := by
  subst hN
  refine ⟨hr.below hb, fun g off h0 e => ?_⟩
  obtain ⟨g', off', e', hl, -⟩ := hr.2 (by omega)
  rw [e] at e'
  cases e'
  exact ⟨fun hf => by have := h.ge _ hf; omega, Nat.lt_of_lt_of_le hl hb.size⟩
end Go.Proofs.YtjefkhieihigiaaGreat
