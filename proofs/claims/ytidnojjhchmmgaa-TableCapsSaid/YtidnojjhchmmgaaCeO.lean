/- What the reader reads of a whole object: its contract. -/
import Derived.Test.YtidnojjhchmmgaaCeN
import Derived.Deep.QuietTactic
import Derived.Deep.Cut
import Derived.BigQuiet
namespace Go.Proofs.Ytidnojjhchmmgaa
set_option linter.unusedVariables false
set_option linter.unusedSimpArgs false
open Go.Joins Go.ChangeShapes Go.WideShapes Go.ChangeAt Go.RowKit Go.Deep

def magicL : List UInt8 := [67, 69, 76, 70, 1]
theorem ext5 (s : List UInt8) (h : s.length ≤ 5) : (ByteArray.mk s.toArray).extract 0 5 = ⟨s.toArray⟩ := by
  apply ByteArray.ext
  simp [ByteArray.extract, ByteArray.copySlice]
  exact List.take_of_length_le h
structure Core where
  name : List UInt8
  needs : List (List UInt8)
  segs : List (Int × Int × Int × List UInt8)
  syms : List Sym
  rels : List Rel
  init : List Int
  fini : List Int
def coreO (o : Ob) : Core := ⟨o.name, o.needs, o.segs.map coreG, o.syms, o.rels, o.init, o.fini⟩
def magicP (s : St) : St := if s.rest.take 5 == magicL then s else ⟨s.rest, 100⟩
def objP (s : St) : Core × St :=
  let s1 := (takeP 5 (magicP s)).2
  let a := textP s1; let b := listH textP a.2; let c := listH segP b.2; let d := listH symP c.2; let e := listH relP d.2; let f := listH halfP e.2; let g := listH halfP f.2
  (⟨a.1, b.1, c.1, d.1, e.1, f.1, g.1⟩, g.2)
theorem listP_rest {α : Type} {one : St → α × St} (h : ∀ s, (one s).2.rest.length ≤ s.rest.length) (n : Nat) (s : St) : (listP one n s).2.rest.length ≤ s.rest.length := by
  induction n generalizing s with
  | zero => exact Nat.le_refl _
  | succ n ih =>
    unfold listP
    split
    · exact Nat.le_trans (ih _) (h s)
    · exact Nat.le_refl _
theorem textP_rest (s : St) : (textP s).2.rest.length ≤ s.rest.length := Nat.le_trans (takeP_rest _ _) (takeP_rest _ _)
theorem listH_rest {α : Type} {one : St → α × St} (h : ∀ s, (one s).2.rest.length ≤ s.rest.length) (s : St) : (listH one s).2.rest.length ≤ s.rest.length := Nat.le_trans (listP_rest h _ _) (takeP_rest _ _)
theorem own_kp2 {w w' : World} {R X B k n : Nat} {e : TypeId} {v : Value} {xs : List Value} (h : w.ownsRow B e k v n xs) (hk : KP w.heap.size (fun b => b = R ∨ b = X) w w') (hR : R < B) (hX : X < B) : w'.ownsRow B e k v n xs := by
  refine ⟨h.1, ?_⟩
  rcases h.2 with h0 | ⟨g, cap, cur, hv, hB, hg, hrest⟩
  · exact Or.inl h0
  · exact Or.inr ⟨g, cap, cur, hv, hB, (hk.block g (Array.getElem?_eq_some_iff.1 hg).1 (fun q => by rcases q with q | q <;> omega)).trans hg, hrest⟩
theorem kp2 {Wi Wj : World} {R X j : Nat} (hk : KP Wi.heap.size (· = R) Wi Wj) (u : Value) : KP Wi.heap.size (fun b => b = R ∨ b = X) Wi (Wj.setCell ⟨X, j, none⟩ u) := (show KP Wi.heap.size (fun b => b = R ∨ b = X) Wi Wj from hk.mono (Nat.le_refl _) (fun _ _ q => Or.inl q)).set ⟨X, j, none⟩ (Or.inr (Or.inr rfl)) u
theorem size_setCell (w : World) (p : Addr) (u : Value) : (w.setCell p u).heap.size = w.heap.size := by simp
theorem own_kpS {w w' : World} {S : Nat → Prop} {B k n : Nat} {e : TypeId} {v : Value} {xs : List Value} (h : w.ownsRow B e k v n xs) (hk : KP w.heap.size S w w') (hS : ∀ b, B ≤ b → ¬ S b) : w'.ownsRow B e k v n xs := by
  refine ⟨h.1, ?_⟩
  rcases h.2 with h0 | ⟨g, cap, cur, hv, hB, hg, hrest⟩
  · exact Or.inl h0
  · exact Or.inr ⟨g, cap, cur, hv, hB, (hk.block g (Array.getElem?_eq_some_iff.1 hg).1 (hS g hB)).trans hg, hrest⟩
theorem newB_kp2 {P : Nat → Prop} {W W' : World} {R X B : Nat} {a : Option Addr} {l : List UInt8} (h : NewB P W a l) (hk : KP W.heap.size (fun b => b = R ∨ b = X) W W') (hP : ∀ b, P b → B ≤ b) (hR : R < B) (hX : X < B) : NewB P W' a l :=
  h.kp hk (Nat.le_refl _) (fun b hb _ q => by have := hP b hb; rcases q with q | q <;> omega)
end Go.Proofs.Ytidnojjhchmmgaa
