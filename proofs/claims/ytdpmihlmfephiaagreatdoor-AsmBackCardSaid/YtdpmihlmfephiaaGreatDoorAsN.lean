/- Where labels stand: the map, and the program's gather. -/
import Derived.Test.YtdpmihlmfephiaaGreatDoorAsM
import Derived.Maps.OwnIn
import Derived.Maps.OwnSet
import Derived.StringKeys
namespace Go.Proofs.YtdpmihlmfephiaaGreatDoor
set_option linter.unusedVariables false
set_option linter.unusedSimpArgs false
open Go.Joins Go.ChangeShapes Go.WideShapes Go.ChangeAt Go.RowKit Go.Deep Go.Shelf
attribute [local go_sem] Oper.semAt_some

def labV (y : Nat × Nat) : Value := .agg #[.int .i64 (y.1 : Int), .int .i64 (y.2 : Int)]
def labZ (y : Nat × Nat) : DataW Unit := .agg [.lit (.int .i64 (y.1 : Int)), .lit (.int .i64 (y.2 : Int))]
def labR (v : Value) : Option (DataW Unit × List MemPlace) := match v with
  | .agg ⟨[.int .i64 a, .int .i64 b]⟩ => some (.agg [.lit (.int .i64 a), .lit (.int .i64 b)], [])
  | _ => none
theorem labR_mk (y : Nat × Nat) : labR (labV y) = some (labZ y, []) := rfl
theorem labR_inv {v : Value} {y : Nat × Nat} {ps : List MemPlace} (h : labR v = some (labZ y, ps)) : v = labV y := by
  unfold labR at h
  split at h
  · rename_i a b
    simp only [labZ, Option.some.injEq, Prod.mk.injEq, DataW.agg.injEq, List.cons.injEq, DataW.lit.injEq, Lit.int.injEq, true_and, and_true] at h
    obtain ⟨⟨rfl, rfl⟩, -⟩ := h
    rfl
  · cases h
theorem keyedL : Maps.Keyed Tryz.prog 9 := Maps.string_keyed Tryz.underlying9
theorem key_of (name : List UInt8) (h : name.length ≤ 1000000) : keyOf Tryz.prog 9 (.string ⟨name.toArray⟩) = some (.string name) := by
  have := WideMaps.keyOf_string_mk (P := Tryz.prog) Tryz.underlying9 (s := ⟨name.toArray⟩) (by show name.toArray.size ≤ maxLen; unfold maxLen; simp; omega)
  simpa using this
def SaysL (D : DataW Unit) (f : List UInt8 → Option (Nat × Nat)) : Prop := ∀ nm, D.atKey (.string nm) (labZ (0, 0)) = labZ ((f nm).getD (0, 0)) ∧ Maps.has D (.string nm) = (f nm).isSome
/-- block b is a map of labels that says f -/
def LabAt (w : World) (b n : Nat) (f : List UInt8 → Option (Nat × Nat)) : Prop := ∃ D, w.ownsMap (H := Unit) Tryz.prog 9 labR b n D ∧ SaysL D f
theorem LabAt.lt {w : World} {b n : Nat} {f : List UInt8 → Option (Nat × Nat)} (h : LabAt w b n f) : b < w.heap.size := by obtain ⟨D, ho, -⟩ := h; exact ho.lt
theorem LabAt.kept {w w' : World} {b n : Nat} {f : List UInt8 → Option (Nat × Nat)} {row : Option Nat} (h : LabAt w b n f) (hg : w.grownBy w' row) (hr : row ≠ some b) : LabAt w' b n f := by
  obtain ⟨D, ho, hs⟩ := h
  exact ⟨D, ho.kept hg (fun e => hr e.symm), hs⟩
theorem LabAt.below {w w' : World} {b n : Nat} {f : List UInt8 → Option (Nat × Nat)} (h : LabAt w b n f) (hb : Below w.heap.size w w') : LabAt w' b n f := h.kept (grown_of_below hb) (by simp)
theorem LabAt.set {w : World} {b n : Nat} {f : List UInt8 → Option (Nat × Nat)} (h : LabAt w b n f) {a : Addr} (ha : b ≠ a.block) (u : Value) : LabAt (w.setCell a u) b n f := by
  obtain ⟨D, ho, hs⟩ := h
  exact ⟨D, ho.setCell ha u, hs⟩
theorem LabAt.made (w : World) : LabAt (w.alloc (.map #[] 0)) w.heap.size 0 (fun _ => none) := ⟨.map [], World.ownsMap_made _ _ _ _, fun nm => ⟨rfl, rfl⟩⟩
theorem zeroLab (w : World) : (zeroValue 68).run Tryz.prog w = .ok (labV (0, 0)) w := by kernel_rfl
theorem LabAt.look {w : World} {b n : Nat} {f : List UInt8 → Option (Nat × Nat)} (h : LabAt w b n f) (nm : List UInt8) (hl : nm.length ≤ 1000000) :
    (Instr.lookup 60 (.map (some b)) (.string ⟨nm.toArray⟩) true).run Tryz.prog w = .ok (.tuple #[labV ((f nm).getD (0, 0)), .bool (f nm).isSome]) w ∧
    (Instr.lookup 60 (.map (some b)) (.string ⟨nm.toArray⟩) false).run Tryz.prog w = .ok (labV ((f nm).getD (0, 0))) w := by
  obtain ⟨D, ho, hs⟩ := h
  obtain ⟨v, ps, h1, h2⟩ := ho.look_ok keyedL Tryz.underlying60 (zeroLab w) (labR_mk (0, 0)) (key_of nm hl)
  obtain ⟨v', ps', h3, h4⟩ := ho.lookup keyedL Tryz.underlying60 (zeroLab w) (labR_mk (0, 0)) (key_of nm hl)
  obtain ⟨g1, g2⟩ := hs nm
  rw [g1] at h2 h4
  rw [labR_inv h2, g2] at h1
  rw [labR_inv h4] at h3
  exact ⟨h1, h3⟩
def putL (f : List UInt8 → Option (Nat × Nat)) (nm : List UInt8) (y : Nat × Nat) : List UInt8 → Option (Nat × Nat) := fun k => if k = nm then some y else f k
theorem LabAt.put {w : World} {b n : Nat} {f : List UInt8 → Option (Nat × Nat)} (h : LabAt w b n f) (nm : List UInt8) (hl : nm.length ≤ 1000000) (hn : n ≤ 1000000) (y : Nat × Nat) :
    ∃ w', (Instr.mapUpdate 60 (.map (some b)) (.string ⟨nm.toArray⟩) (labV y)).run Tryz.prog w = .ok () w' ∧ LabAt w' b (n + 1) (putL f nm y) ∧ w.grownBy w' (some b) := by
  obtain ⟨D, ho, hs⟩ := h
  obtain ⟨w', h1, h2, h3⟩ := ho.update keyedL Tryz.underlying60 (by unfold maxLen; omega) (key_of nm hl) (labR_mk y)
  refine ⟨w', h1, ⟨_, h2, fun k => ?_⟩, h3⟩
  unfold putL
  by_cases e : k = nm
  · subst e
    have hk : WideAt.IsKeyLit (Lit.string k) := trivial
    rw [if_pos rfl, Maps.atKey_put_same ho.isMap hk, Maps.has_put_same ho.isMap hk]
    exact ⟨rfl, rfl⟩
  · have hne : (Lit.string k) ≠ Lit.string nm := fun q => e (by injection q)
    rw [if_neg e, Maps.atKey_put_other hne, Maps.has_put_other hne]
    exact hs k
/-! Labels of a list of lines. -/
def placeN : List (Nat × List UInt8) → Nat → Nat
  | [], a => a
  | x :: r, a => if (labelF x.2).isSome = true then placeN r a else placeN r (a + 4)
theorem placeN_snoc (x : Nat × List UInt8) : ∀ (l : List (Nat × List UInt8)) (a : Nat), placeN (l ++ [x]) a = if (labelF x.2).isSome = true then placeN l a else placeN l a + 4
  | [], a => by simp [placeN]
  | z :: r, a => by
    rw [List.cons_append]
    unfold placeN
    split
    · exact placeN_snoc x r a
    · exact placeN_snoc x r (a + 4)
theorem lookN_snoc (nm : List UInt8) (x : Nat × List UInt8) : ∀ (l : List (Nat × List UInt8)) (a : Nat), lookN nm (l ++ [x]) a = match lookN nm l a with
    | some y => some y
    | none => if labelF x.2 = some nm then some (x.1, placeN l a) else none
  | [], a => by
    simp only [List.nil_append, lookN, placeN]
    cases h : labelF x.2 with
    | none => simp
    | some o =>
      by_cases e : o = nm
      · subst e; simp
      · simp [e]
  | z :: r, a => by
    rw [List.cons_append]
    cases h : labelF z.2 with
    | none =>
      have h1 : ∀ l, lookN nm (z :: l) a = lookN nm l (a + 4) := fun l => by simp only [lookN, h]
      have h2 : placeN (z :: r) a = placeN r (a + 4) := by simp [placeN, h]
      rw [h1, h1, h2]
      exact lookN_snoc nm x r (a + 4)
    | some o =>
      have h2 : placeN (z :: r) a = placeN r a := by simp [placeN, h]
      by_cases e : o = nm
      · have h1 : ∀ l, lookN nm (z :: l) a = some (z.1, a) := fun l => by simp only [lookN, h]; rw [if_pos e]
        rw [h1, h1]
      · have h1 : ∀ l, lookN nm (z :: l) a = lookN nm l a := fun l => by simp only [lookN, h]; rw [if_neg e]
        rw [h1, h1, h2]
        exact lookN_snoc nm x r a
theorem placeN_le (l : List (Nat × List UInt8)) (a : Nat) : placeN l a ≤ a + 4 * l.length := by
  induction l generalizing a with
  | nil => exact Nat.le_refl _
  | cons x r ih =>
    unfold placeN
    rw [List.length_cons]
    split
    · have := ih a; omega
    · have := ih (a + 4); omega
def vals (pre : List LX) : List (Nat × List UInt8) := pre.map (·.1)
theorem vals_snoc (pre : List LX) (x : LX) : vals (pre ++ [x]) = vals pre ++ [x.1] := by unfold vals; rw [List.map_append]; rfl
theorem vals_len (pre : List LX) : (vals pre).length = pre.length := List.length_map _
def GatI (w : World) (pre : List LX) (W : World) : Prop :=
  (∃ n, n ≤ pre.length ∧ LabAt W w.heap.size n (fun nm => lookN nm (vals pre) 0)) ∧ BoxN W (w.heap.size + 1) #[.map (some w.heap.size)] ∧ (∃ t, t ≠ 5 ∧ W.heap[w.heap.size + 2]? = some (.cells #[.int .i64 (placeN (vals pre) 0 : Int)] t (0, 0))) ∧ Below w.heap.size w W
theorem gatI_own (w : World) (B : Nat) (hB : w.heap.size + 3 ≤ B) : OwnFrom B (GatI w) := by
  rintro pre A W row ⟨⟨n, h0, h1⟩, h2, ⟨t, h3, h4⟩, h5⟩ hg hr
  have hr' : ∀ r, row = some r → ∃ o : Go.Obj, A.heap[r]? = some o ∧ o.isCells = false := fun r e => (hr r e).2
  have hne : ∀ b, b < B → row ≠ some b := fun b hb e => by have := (hr b e).1; omega
  have hl : w.heap.size + 2 < A.heap.size := (Array.getElem?_eq_some_iff.1 h4).1
  exact ⟨⟨n, h0, h1.kept hg (hne _ (by omega))⟩, h2.kept hg hr', ⟨t, h3, (hg.block _ hl (fun e => hne _ (by omega) e.symm)).trans h4⟩, h5.grown hg h5.size (fun k e => by have := (hr k e).1; omega)⟩
end Go.Proofs.YtdpmihlmfephiaaGreatDoor
