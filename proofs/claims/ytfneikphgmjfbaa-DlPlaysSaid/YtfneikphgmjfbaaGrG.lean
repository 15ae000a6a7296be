/- begin: where it stands, and its contract. -/
import Derived.Test.YtfneikphgmjfbaaGrF
namespace Go.Proofs.Ytfneikphgmjfbaa
set_option linter.unusedVariables false
set_option linter.unusedSimpArgs false
open Go.Joins Go.ChangeShapes Go.WideShapes Go.ChangeAt Go.RowKit

def GoodO (l : List Obj) (m o : List Nat) : Prop := (∀ k ∈ o, k ∈ m) ∧ m.Nodup ∧ o.Nodup ∧ ∀ k ∈ o, k < l.length
theorem GoodO.le {l : List Obj} {m o : List Nat} (h : GoodO l m o) : o.length ≤ l.length := nodup_le _ _ h.2.2.1 h.2.2.2
theorem GoodO.vis {l : List Obj} {ord m o m1 o1 : List Nat} {ks : List (Option Nat)} (h : GoodO l m o) (hv : Vis l ord m o ks m1 o1) : GoodO l m1 o1 := hv.fresh h.1 h.2
theorem wait_lt {l : List Obj} {ord m : List Nat} {k : Nat} (hw : waitB l ord m k = true) : k < l.length ∧ k ∉ m := by
  unfold waitB at hw
  simp at hw
  exact ⟨hw.1, hw.2.2⟩
theorem GoodO.mark {l : List Obj} {ord m o : List Nat} {k : Nat} (h : GoodO l m o) (hw : waitB l ord m k = true) : GoodO l (m ++ [k]) o := by
  have hkm := (wait_lt hw).2
  exact ⟨fun j hj => List.mem_append_left _ (h.1 j hj), by
    rw [List.nodup_append]
    exact ⟨h.2.1, by simp, fun a ha b hb => by simp at hb; subst hb; intro e; subst e; exact hkm ha⟩, h.2.2⟩
def BegFn (bl bw bm bf bb : Nat) : Value := .func (.func 46) #[] #[.pointer (some ⟨bl, 0, none⟩), .pointer (some ⟨bw, 0, none⟩), .pointer (some ⟨bm, 0, none⟩), .pointer (some ⟨bf, 0, none⟩), .pointer (some ⟨bb, 0, none⟩)]
/-- where Begin stands: the objects, which wait, where names are found, begin itself, what was begun, each in a block of its own -/
def BegAt (w0 W : World) (B2 bl bw bm bf bb mb mw : Nat) (a : Option Addr) (c : Nat) (l : List Obj) (ord met out : List Nat) : Prop :=
  (w0.heap.size ≤ bb ∧ w0.heap.size ≤ mw ∧ w0.heap.size ≤ B2 ∧ bl < B2 ∧ bw < B2 ∧ bm < B2 ∧ bf < B2 ∧ bb < B2 ∧ mb < B2 ∧ mw < B2 ∧ B2 ≤ W.heap.size) ∧
  ((bb ≠ bl ∧ bb ≠ bw ∧ bb ≠ bm ∧ bb ≠ bf ∧ bb ≠ mb ∧ bb ≠ mw) ∧ mw ≠ bl ∧ mw ≠ bw ∧ mw ≠ bm ∧ mw ≠ bf ∧ mw ≠ mb) ∧
  (W.cell? ⟨bl, 0, none⟩ = some (.slice a l.length c) ∧ W.cell? ⟨bw, 0, none⟩ = some (.slice (some ⟨mw, 0, none⟩) l.length l.length) ∧ W.cell? ⟨bm, 0, none⟩ = some (.map (some mb)) ∧
    W.cell? ⟨bf, 0, none⟩ = some (.func (.func 46) #[] #[.pointer (some ⟨bl, 0, none⟩), .pointer (some ⟨bw, 0, none⟩), .pointer (some ⟨bm, 0, none⟩), .pointer (some ⟨bf, 0, none⟩), .pointer (some ⟨bb, 0, none⟩)]) ∧ W.frozen? ⟨bb, 0, none⟩ = false) ∧
  PlacesAt W mb l ∧ ((∀ j, W.frozen? ⟨mw, j, none⟩ = false) ∧ ∀ k, k < l.length → W.cell? ⟨mw, k, none⟩ = some (.bool (waitB l ord met k))) ∧
  (∃ v, W.cell? ⟨bb, 0, none⟩ = some v ∧ W.ownsRow B2 3 1 v out.length (i64s (ordZ out))) ∧ Below w0.heap.size w0 W ∧ GoodO l met out
theorem BegAt.mark {w0 W : World} {B2 bl bw bm bf bb mb mw : Nat} {a : Option Addr} {c : Nat} {l : List Obj} {ord met out : List Nat} {k : Nat} (h : BegAt w0 W B2 bl bw bm bf bb mb mw a c l ord met out) (hw : waitB l ord met k = true) :
    BegAt w0 (W.setCell ⟨mw, k, none⟩ (.bool false)) B2 bl bw bm bf bb mb mw a c l ord (met ++ [k]) out := by
  obtain ⟨⟨h1, h2, h3, h4, h5, h6, h7, h8, h9, h10, h11⟩, ⟨⟨n1, n2, n3, n4, n5, n6⟩, n7, n8, n9, n10, n11⟩, ⟨c1, c2, c3, c4, c5⟩, hp, ⟨m1, m2⟩, ⟨v, hv, ho⟩, hb, hg⟩ := h
  have far : ∀ b j, b ≠ mw → (W.setCell ⟨mw, k, none⟩ (.bool false)).cell? ⟨b, j, none⟩ = W.cell? ⟨b, j, none⟩ := fun b j hne => World.cell?_setCell_other _ _ _ _ (fun e => hne (by injection e with e1; exact e1.symm))
  refine ⟨⟨h1, h2, h3, h4, h5, h6, h7, h8, h9, h10, by simpa using h11⟩, ⟨⟨n1, n2, n3, n4, n5, n6⟩, n7, n8, n9, n10, n11⟩, ⟨(far _ _ n7.symm).trans c1, (far _ _ n8.symm).trans c2, (far _ _ n9.symm).trans c3, (far _ _ n10.symm).trans c4, by rw [World.frozen?_setCell]; exact c5⟩,
    hp.block (Below.heap_setCell _ _ _ _ n11.symm), ⟨fun j => by rw [World.frozen?_setCell]; exact m1 j, fun j hj => ?_⟩, ⟨v, (far _ _ n6).trans hv, own_kept_block ho fun g hg => Below.heap_setCell _ _ _ _ (show g ≠ mw by omega)⟩, hb.setCell h2 _, hg.mark hw⟩
  by_cases e : k = j
  · subst e
    rw [World.cell?_setCell_same _ _ _ (m2 k hj)]
    unfold waitB
    simp
  · rw [World.cell?_setCell_other _ _ _ _ (by simp [e]), m2 j hj]
    have e' : ¬ j = k := fun q => e q.symm
    unfold waitB
    simp [e']
theorem BegAt.push {w0 W W2 : World} {B2 bl bw bm bf bb mb mw : Nat} {a : Option Addr} {c : Nat} {l : List Obj} {ord met out : List Nat} {k : Nat} {v v' : Value} (h : BegAt w0 W B2 bl bw bm bf bb mb mw a c l ord met out) (ob : Go.Obj) (hgr : (W.alloc ob).grownBy W2 v.ownBlock)
    (hv : W.cell? ⟨bb, 0, none⟩ = some v) (hvo : ∀ q, v.ownBlock = some q → B2 ≤ q) (ho : W2.ownsRow B2 3 1 v' (out ++ [k]).length (i64s (ordZ (out ++ [k])))) (hgood : GoodO l met (out ++ [k])) :
    BegAt w0 (W2.setCell ⟨bb, 0, none⟩ v') B2 bl bw bm bf bb mb mw a c l ord met (out ++ [k]) := by
  obtain ⟨⟨h1, h2, h3, h4, h5, h6, h7, h8, h9, h10, h11⟩, ⟨⟨n1, n2, n3, n4, n5, n6⟩, n7, n8, n9, n10, n11⟩, ⟨c1, c2, c3, c4, c5⟩, hp, ⟨m1, m2⟩, -, hb, hg⟩ := h
  have old := fun b j (hlt : b < B2) => grown_old hgr (b := b) (by omega) (fun e => by have := hvo b e; omega) j
  have far : ∀ b j, b < B2 → b ≠ bb → (W2.setCell ⟨bb, 0, none⟩ v').cell? ⟨b, j, none⟩ = W.cell? ⟨b, j, none⟩ := fun b j hlt hne => (World.cell?_setCell_other _ _ _ _ (fun e => hne (by injection e with e1; exact e1.symm))).trans (old b j hlt).1
  have farf : ∀ b j, b < B2 → (W2.setCell ⟨bb, 0, none⟩ v').frozen? ⟨b, j, none⟩ = W.frozen? ⟨b, j, none⟩ := fun b j hlt => by rw [World.frozen?_setCell]; exact (old b j hlt).2
  have hsz := hgr.size
  rw [size_alloc] at hsz
  refine ⟨⟨h1, h2, h3, h4, h5, h6, h7, h8, h9, h10, by simp; omega⟩, ⟨⟨n1, n2, n3, n4, n5, n6⟩, n7, n8, n9, n10, n11⟩, ⟨(far _ _ h4 n1.symm).trans c1, (far _ _ h5 n2.symm).trans c2, (far _ _ h6 n3.symm).trans c3, (far _ _ h7 n4.symm).trans c4, (farf _ _ h8).trans c5⟩,
    hp.block (by rw [Below.heap_setCell _ _ _ _ n5.symm, hgr.block mb (by rw [size_alloc]; omega) (fun e => by have := hvo mb e.symm; omega), Below.heap_alloc _ _ _ (by omega)]), ⟨fun j => (farf _ _ h10).trans (m1 j), fun j hj => (far _ _ h10 n6.symm).trans (m2 j hj)⟩,
    ⟨v', World.cell?_setCell_same _ _ _ ((old bb 0 h8).1.trans hv), own_kept_block ho fun g hg => Below.heap_setCell _ _ _ _ (show g ≠ bb by omega)⟩, ?_, hgood⟩
  have b2 := hb.alloc hb.size ob
  exact (b2.grown hgr (by rw [size_alloc]; omega) (fun q hq => by have := hvo q hq; omega)).setCell h1 _
end Go.Proofs.Ytfneikphgmjfbaa
