/- What relocations are bound to: the specification and its small lemmas. -/
import Derived.Test.YthammjpadbbflaaPlA
namespace Go.Proofs.Ythammjpadbbflaa
set_option linter.unusedVariables false
set_option linter.unusedSimpArgs false
open Go.Joins Go.ChangeShapes Go.WideShapes Go.ChangeAt Go.RowKit Go.Deep

def symD (l : List Ob) (o : Nat) (y : Int) : Sym := ((symsAt l o)[y.toNat]?).getD ⟨[], [], 0, 0, 0, 0, 0, false⟩
def bnd (l : List Ob) (sc : List Nat) (o : Nat) (y : Int) : Int × Int × Int := bindS l sc o y (symD l o y)
def relsAt (l : List Ob) (o : Nat) : List (Int × Int) := match l[o]? with
  | some x => x.rels
  | none => []
theorem relsAt_eq {l : List Ob} {k : Nat} (h : k < l.length) : relsAt l k = l[k].rels := by unfold relsAt; rw [List.getElem?_eq_getElem h]
abbrev Res := List Lnk × Option (Lnk × Int)
def relF (l : List Ob) (sc : List Nat) (o : Nat) : Nat → List (Int × Int) → List Lnk → Res
  | _, [], acc => (acc, none)
  | k, r :: t, acc => if (bnd l sc o r.2).2.2 = 0 then relF l sc o (k + 1) t (acc ++ [⟨o, k, (bnd l sc o r.2).1, (bnd l sc o r.2).2.1⟩]) else ([], some (⟨o, k, 0, 0⟩, (bnd l sc o r.2).2.2))
def linkF (l : List Ob) (sc : List Nat) : List Nat → List Lnk → Res
  | [], acc => (acc, none)
  | o :: t, acc => match relF l sc o 0 (relsAt l o) acc with
    | (xs, none) => linkF l sc t xs
    | (xs, some e) => (xs, some e)
def contF (l : List Ob) (sc t : List Nat) (p : Res) : Res := match p with
  | (xs, none) => linkF l sc t xs
  | (xs, some e) => (xs, some e)
def badL : Option (Lnk × Int) → Lnk
  | none => ⟨0, 0, 0, 0⟩
  | some e => e.1
def errL : Option (Lnk × Int) → Int
  | none => 0
  | some e => e.2
theorem relF_end (l : List Ob) (sc : List Nat) (o k : Nat) (r : List (Int × Int)) (acc : List Lnk) (h : r.length ≤ k) : relF l sc o k (r.drop k) acc = (acc, none) := by rw [List.drop_eq_nil_of_le h]; rfl
theorem relF_ok (l : List Ob) (sc : List Nat) (o k : Nat) (r : List (Int × Int)) (acc : List Lnk) (h : k < r.length) (t s : Int) (hb : bnd l sc o r[k].2 = (t, s, 0)) : relF l sc o k (r.drop k) acc = relF l sc o (k + 1) (r.drop (k + 1)) (acc ++ [⟨o, k, t, s⟩]) := by
  rw [List.drop_eq_getElem_cons h]
  show (if _ then _ else _) = _
  rw [hb]
  exact if_pos rfl
theorem relF_bad (l : List Ob) (sc : List Nat) (o k : Nat) (r : List (Int × Int)) (acc : List Lnk) (h : k < r.length) (t s e : Int) (hb : bnd l sc o r[k].2 = (t, s, e)) (he : e ≠ 0) : relF l sc o k (r.drop k) acc = ([], some (⟨o, k, 0, 0⟩, e)) := by
  rw [List.drop_eq_getElem_cons h]
  show (if _ then _ else _) = _
  rw [hb]
  exact if_neg he
theorem linkF_end (l : List Ob) (sc os : List Nat) (i : Nat) (acc : List Lnk) (h : os.length ≤ i) : linkF l sc (os.drop i) acc = (acc, none) := by rw [List.drop_eq_nil_of_le h]; rfl
theorem linkF_at (l : List Ob) (sc os : List Nat) (i : Nat) (acc : List Lnk) (h : i < os.length) : linkF l sc (os.drop i) acc = contF l sc (os.drop (i + 1)) (relF l sc os[i] 0 ((relsAt l os[i]).drop 0) acc) := by
  rw [List.drop_eq_getElem_cons h, List.drop_zero]
  rfl
/-- relocations of symbols that the objects have, and few -/
def RelsOk (l : List Ob) : Prop := ∀ x ∈ l, x.rels.length ≤ 60 ∧ ∀ r ∈ x.rels, 0 ≤ r.2 ∧ r.2 < (x.syms.length : Int)
theorem bnd_eq (l : List Ob) (sc : List Nat) (o y : Nat) (ho : o < l.length) (hy : y < l[o].syms.length) : bnd l sc o (y : Int) = bindS l sc o y l[o].syms[y] := by
  unfold bnd symD
  rw [symsAt_eq ho, Int.toNat_natCast, List.getElem?_eq_getElem hy]
  rfl
theorem bindB_any (a b : Option Addr) (c d : Nat) (l : List Ob) (sc : List Nat) (o : Nat) (y : Int) (w : World) (hl : RdL w a l) (hs : Rd w b sc.length (ordV sc)) (hsc : ∀ k ∈ sc, k < l.length) (hf : FewO l) (hn : sc.length ≤ 100) (ho : o < l.length) (hy0 : 0 ≤ y) (hy : y < ((symsAt l o).length : Int)) :
    Calls Try.prog 19 #[.slice a l.length c, .slice b sc.length d, .int .i64 (o : Int), .int .i64 y] w fun e w' => e = .returned (.tuple #[.int .i64 (bnd l sc o y).1, .int .i64 (bnd l sc o y).2.1, .int .i64 (bnd l sc o y).2.2]) ∧ Below w.heap.size w w' := by
  obtain ⟨n, rfl⟩ := Int.eq_ofNat_of_zero_le hy0
  have hy' : n < l[o].syms.length := by rw [← symsAt_eq ho]; omega
  rw [bnd_eq l sc o n ho hy']
  exact bind_any a b c d l sc o n w hl hs hsc hf hn ho hy'
theorem rbindB_any (a b : Option Addr) (c d : Nat) (l : List Ob) (sc : List Nat) (o : Nat) (y : Int) (w : World) (hl : RdL w a l) (hs : Rd w b sc.length (ordV sc)) (hsc : ∀ k ∈ sc, k < l.length) (hf : FewO l) (hn : sc.length ≤ 100) (ho : o < l.length) (hy0 : 0 ≤ y) (hy : y < ((symsAt l o).length : Int)) :
    Calls Try.prog 20 #[.slice a l.length c, .slice b sc.length d, .int .i64 (o : Int), .int .i64 y] w fun e w' => e = .returned (.tuple #[.int .i64 (bnd l sc o y).1, .int .i64 (bnd l sc o y).2.1, .int .i64 (bnd l sc o y).2.2]) ∧ Below w.heap.size w w' := by
  obtain ⟨n, rfl⟩ := Int.eq_ofNat_of_zero_le hy0
  have hy' : n < l[o].syms.length := by rw [← symsAt_eq ho]; omega
  rw [bnd_eq l sc o n ho hy']
  exact rbind_any a b c d l sc o n w hl hs hsc hf hn ho hy'
def put4 (W : World) (B : Nat) (x : Lnk) : World := (((W.setCell ⟨B, 0, none⟩ (.int .i64 x.o)).setCell ⟨B, 1, none⟩ (.int .i64 x.r)).setCell ⟨B, 2, none⟩ (.int .i64 x.t)).setCell ⟨B, 3, none⟩ (.int .i64 x.s)
theorem put4_cells {W : World} {B : Nat} (x : Lnk) {p0 p1 p2 p3 : Value} (h : BoxN W B #[p0, p1, p2, p3]) : (put4 W B x).cell? ⟨B, 0, none⟩ = some (.int .i64 x.o) ∧ (put4 W B x).cell? ⟨B, 1, none⟩ = some (.int .i64 x.r) ∧ (put4 W B x).cell? ⟨B, 2, none⟩ = some (.int .i64 x.t) ∧ (put4 W B x).cell? ⟨B, 3, none⟩ = some (.int .i64 x.s) := by
  have q := (((h.set 0 (.int .i64 x.o)).set 1 (.int .i64 x.r)).set 2 (.int .i64 x.t)).set 3 (.int .i64 x.s)
  exact ⟨q.cell 0, q.cell 1, q.cell 2, q.cell 3⟩
theorem put4_below {W w : World} (x : Lnk) (h : Below w.heap.size w W) : Below w.heap.size w (put4 W w.heap.size x) :=
  (((h.setCell (p := ⟨w.heap.size, 0, none⟩) (Nat.le_refl _) _).setCell (p := ⟨w.heap.size, 1, none⟩) (Nat.le_refl _) _).setCell (p := ⟨w.heap.size, 2, none⟩) (Nat.le_refl _) _).setCell (p := ⟨w.heap.size, 3, none⟩) (Nat.le_refl _) _
theorem put4_own {W : World} {B : Nat} (x : Lnk) {e : TypeId} {size n : Nat} {v : Value} {xs : List Value} (h : W.ownsRow (B + 1) e size v n xs) : (put4 W B x).ownsRow (B + 1) e size v n xs := by
  obtain ⟨h1, h2⟩ := h
  refine ⟨h1, ?_⟩
  rcases h2 with h2 | ⟨g, cap, cur, hv, hg, hh, r⟩
  · exact Or.inl h2
  · refine Or.inr ⟨g, cap, cur, hv, hg, ?_, r⟩
    have hne : g ≠ B := by omega
    unfold put4
    rw [Below.heap_setCell _ _ _ _ hne, Below.heap_setCell _ _ _ _ hne, Below.heap_setCell _ _ _ _ hne, Below.heap_setCell _ _ _ _ hne]
    exact hh
end Go.Proofs.Ythammjpadbbflaa
