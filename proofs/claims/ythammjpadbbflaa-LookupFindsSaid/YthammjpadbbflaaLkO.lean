/- What comes in: objects with symbols and relocations, numbers. -/
import Derived.Test.YthammjpadbbflaaLkM
import Derived.Carry
import Derived.ChangeMaps5
import Derived.Deep.Slices
import Derived.Deep.Fields
import Derived.ChangeSame
namespace Go.Proofs.Ythammjpadbbflaa
set_option linter.unusedVariables false
set_option linter.unusedSimpArgs false
set_option maxRecDepth 100000
open Go.Joins Go.ChangeShapes Go.WideShapes Go.ChangeAt Go.RowKit Go.Deep

theorem objCells : Try.prog.cellsOf 37 = 7 := by kernel_rfl
theorem relCells : Try.prog.cellsOf 57 = 2 := by kernel_rfl
theorem intCells : Try.prog.cellsOf 3 = 1 := by kernel_rfl
section
variable {H : Type} {enc : TypeId × Value → H}
theorem seven_of {P : Program} {w : World} {base fuel : Nat} {spare : Nat → Bool} {held : Bool} {t : TypeId} {f0 f1 f2 f3 f4 f5 f6 : Field} {cs : List Value} {x : DataW H × List MemPlace}
    (hs : P.underlying t = some (.struct #[f0, f1, f2, f3, f4, f5, f6])) (hone : oneCellFields P #[f0, f1, f2, f3, f4, f5, f6] = true) (hC : P.cellsOf t = 7) (h : DataW.trod enc P w base spare held fuel t cs = some x) :
    ∃ (v0 v1 v2 v3 v4 v5 v6 : Value) (y0 y1 y2 y3 y4 y5 y6 : DataW H × List MemPlace) (n : Nat), cs = [v0, v1, v2, v3, v4, v5, v6] ∧ x = (.agg [y0.1, y1.1, y2.1, y3.1, y4.1, y5.1, y6.1], y0.2 ++ (y1.2 ++ (y2.2 ++ (y3.2 ++ (y4.2 ++ (y5.2 ++ (y6.2))))))) ∧
      DataW.trod enc P w base spare held n f0.type [v0] = some y0 ∧ DataW.trod enc P w base spare held n f1.type [v1] = some y1 ∧ DataW.trod enc P w base spare held n f2.type [v2] = some y2 ∧ DataW.trod enc P w base spare held n f3.type [v3] = some y3 ∧ DataW.trod enc P w base spare held n f4.type [v4] = some y4 ∧ DataW.trod enc P w base spare held n f5.type [v5] = some y5 ∧ DataW.trod enc P w base spare held n f6.type [v6] = some y6 := by
  obtain ⟨xs, n, _, hx, hcl, hlen, hg⟩ := DataW.trod_struct hs h
  match cs, hcl.trans hC with
  | [c0, c1, c2, c3, c4, c5, c6], _ =>
    obtain ⟨o0, k0⟩ := hone_of hone 0 f0 rfl
    obtain ⟨o1, k1⟩ := hone_of hone 1 f1 rfl
    obtain ⟨o2, k2⟩ := hone_of hone 2 f2 rfl
    obtain ⟨o3, k3⟩ := hone_of hone 3 f3 rfl
    obtain ⟨o4, k4⟩ := hone_of hone 4 f4 rfl
    obtain ⟨o5, k5⟩ := hone_of hone 5 f5 rfl
    obtain ⟨o6, k6⟩ := hone_of hone 6 f6 rfl
    match xs, hlen with
    | [y0, y1, y2, y3, y4, y5, y6], _ =>
      exact ⟨c0, c1, c2, c3, c4, c5, c6, y0, y1, y2, y3, y4, y5, y6, n, rfl, by simpa using hx, by simpa [o0, k0] using hg 0 f0 rfl, by simpa [o1, k1] using hg 1 f1 rfl, by simpa [o2, k2] using hg 2 f2 rfl, by simpa [o3, k3] using hg 3 f3 rfl, by simpa [o4, k4] using hg 4 f4 rfl, by simpa [o5, k5] using hg 5 f5 rfl, by simpa [o6, k6] using hg 6 f6 rfl⟩
theorem two_of {P : Program} {w : World} {base fuel : Nat} {spare : Nat → Bool} {held : Bool} {t : TypeId} {f0 f1 : Field} {cs : List Value} {x : DataW H × List MemPlace}
    (hs : P.underlying t = some (.struct #[f0, f1])) (hone : oneCellFields P #[f0, f1] = true) (hC : P.cellsOf t = 2) (h : DataW.trod enc P w base spare held fuel t cs = some x) :
    ∃ (v0 v1 : Value) (y0 y1 : DataW H × List MemPlace) (n : Nat), cs = [v0, v1] ∧ x = (.agg [y0.1, y1.1], y0.2 ++ (y1.2)) ∧
      DataW.trod enc P w base spare held n f0.type [v0] = some y0 ∧ DataW.trod enc P w base spare held n f1.type [v1] = some y1 := by
  obtain ⟨xs, n, _, hx, hcl, hlen, hg⟩ := DataW.trod_struct hs h
  match cs, hcl.trans hC with
  | [c0, c1], _ =>
    obtain ⟨o0, k0⟩ := hone_of hone 0 f0 rfl
    obtain ⟨o1, k1⟩ := hone_of hone 1 f1 rfl
    match xs, hlen with
    | [y0, y1], _ =>
      exact ⟨c0, c1, y0, y1, n, rfl, by simpa using hx, by simpa [o0, k0] using hg 0 f0 rfl, by simpa [o1, k1] using hg 1 f1 rfl⟩
theorem cell_of_cells {W : World} {a : Addr} {i : Nat} {v : Value} (h : W.cells? 0 (a.add (i * 1)) 1 = some [v]) : W.cell? (a.add i) = some v := by
  obtain ⟨_, hcl, hat⟩ := World.cells?_some h
  have := hat 0 (by decide)
  rw [Go.Deep.add_add] at this
  simpa using this
/-- a slice that nobody looks into -/
theorem slice_of {w : World} {base fuel : Nat} {spare : Nat → Bool} {held : Bool} {t e : TypeId} {v : Value} {x : DataW H × List MemPlace} (ht : Try.prog.underlying t = some (.slice e)) (h : DataW.trod enc Try.prog w base spare held fuel t [v] = some x) :
    ∃ (a : Option Addr) (n c : Nat), v = .slice a n c := by
  rcases DataW.trod_slice ht h with ⟨hcs, -⟩ | ⟨a, len, cap, elems, rest, n, -, hcs, -⟩
  · simp at hcs; exact ⟨_, _, _, hcs⟩
  · simp at hcs; exact ⟨_, _, _, hcs⟩
/-- a slice of symbols within an object -/
theorem syms_of {W : World} {fuel : Nat} {v : Value} {x : DataW H × List MemPlace} (h : DataW.trod enc Try.prog W 0 (fun _ => true) true fuel 34 [v] = some x) :
    ∃ (sa : Option Addr) (sc : Nat) (l : List Sym), v = .slice sa l.length sc ∧ RdS W sa l ∧ l.length ≤ sc := by
  rcases open_slice Try.underlying34 h with ⟨hcs, -⟩ | ⟨a, len, cap, m, n, D, Pl, hcs, -, hl, hm, hmm, -, hi⟩
  · simp at hcs
    subst hcs
    exact ⟨none, 0, [], rfl, fun h => absurd h (by simp), Nat.le_refl _⟩
  · simp at hcs
    subst hcs
    have hq := open_syms (W := W) (v := .slice (some a) len cap) (d := x.1) (p := x.2) rfl ⟨fuel, h⟩
    obtain ⟨l, rfl, hr, -, -⟩ := hq
    exact ⟨some a, cap, l, rfl, hr, hl⟩
/-- a slice of relocations within an object -/
theorem rels_of {w : World} {fuel : Nat} {v : Value} {x : DataW H × List MemPlace} (h : DataW.trod enc Try.prog w 0 (fun _ => true) true fuel 35 [v] = some x) :
    ∃ (ra : Option Addr) (rc : Nat) (l : List (Int × Int)), v = .slice ra l.length rc ∧ RdR w ra l ∧ l.length ≤ maxLen := by
  rcases open_slice Try.underlying35 h with ⟨hcs, -⟩ | ⟨a, len, cap, m, n, D, Pl, hcs, -, hl, hm, hmm, -, hi⟩
  · simp at hcs
    subst hcs
    exact ⟨none, 0, [], rfl, fun h => absurd h (by simp), Nat.zero_le _⟩
  · simp at hcs
    subst hcs
    simp only [if_true] at hmm
    subst hmm
    rw [relCells] at hi
    obtain ⟨l, hll, hq⟩ := list_of (n := len) (Q := fun i (p : Int × Int) => w.cell? (a.add (i * 2)) = some (.int .u64 p.1) ∧ w.cell? (a.add (i * 2 + 1)) = some (.int .i64 p.2)) fun i hin => by
      obtain ⟨cs', hc, ht⟩ := hi i (by omega)
      obtain ⟨v0, v1, y0, y1, n', rfl, -, h0, h1⟩ := two_of Try.underlying57 (by kernel_rfl) relCells ht
      obtain ⟨z, e0, -, k0⟩ := DataW.trod_int Try.underlying43 h0
      obtain ⟨z', e1, -, k1⟩ := DataW.trod_int Try.underlying3 h1
      simp at e0 e1
      subst e0
      subst e1
      obtain ⟨_, hcl, hat⟩ := World.cells?_some hc
      have c0 := hat 0 (by decide)
      have c1 := hat 1 (by decide)
      rw [Go.Deep.add_add] at c0 c1
      exact ⟨(z, z'), by simpa using c0, by simpa using c1⟩
    refine ⟨some a, _, l, by rw [hll], fun h0 => ?_, by omega⟩
    obtain ⟨b, off, spot⟩ := a
    have c0 := (hq 0 h0).1
    have hspot : spot = none := by simpa [Addr.add] using World.cell?_spot c0
    subst hspot
    refine ⟨b, off, rfl, ?_, fun k hk => ?_⟩
    · have := heap_lt_of_cell c0
      rwa [add_plain] at this
    · have := hq k hk
      rw [add_plain, add_plain] at this
      exact ⟨this.1, by rw [Nat.add_assoc]; exact this.2⟩
/-- seven cells that read as an object are one -/
theorem obj_of {w : World} {fuel : Nat} {cs : List Value} {x : DataW H × List MemPlace} (h : DataW.trod enc Try.prog w 0 (fun _ => true) true fuel 37 cs = some x) :
    ∃ (o : Ob) (sa ra : Option Addr) (sc rc : Nat) (nm : ByteArray), cs.length = 7 ∧ cs[0]? = some (.string nm) ∧ cs[3]? = some (.slice sa o.syms.length sc) ∧ cs[4]? = some (.slice ra o.rels.length rc) ∧ RdS w sa o.syms ∧ o.syms.length ≤ sc ∧ RdR w ra o.rels ∧ o.rels.length ≤ maxLen := by
  obtain ⟨v0, v1, v2, v3, v4, v5, v6, y0, y1, y2, y3, y4, y5, y6, n, rfl, rfl, h0, h1, h2, h3, h4, h5, h6⟩ := seven_of Try.underlying37 (by kernel_rfl) objCells h
  obtain ⟨nm, e0, -, k0⟩ := DataW.trod_string Try.underlying9 h0
  cases e0
  obtain ⟨sa, sc, l, rfl, hs, hc⟩ := syms_of h3
  obtain ⟨ra, rc, r, rfl, hr, hm⟩ := rels_of h4
  exact ⟨⟨l, r⟩, sa, ra, sc, rc, nm, rfl, rfl, rfl, rfl, hs, hc, hr, hm⟩
/-- a slice of objects as it comes in -/
theorem open_objs {W : World} {v : Value} {d : DataW H} {p : List MemPlace} {a0 : Option Addr} {len cap : Nat} (hv : v = .slice a0 len cap)
    (h : DataW.Trod enc Try.prog W 0 (fun _ => true) true 22 v d p) :
    ∃ l : List Ob, l.length = len ∧ RdL W a0 l ∧ (∀ o ∈ l, o.rels.length ≤ maxLen) ∧ len ≤ maxLen := by
  subst hv
  obtain ⟨fuel, hf⟩ := h
  rcases open_slice Try.underlying22 hf with ⟨hcs, -⟩ | ⟨a, len', cap', m, n, D, Pl, hcs, -, hl, hm, hmm, -, hi⟩
  · simp [Value.cells] at hcs
    obtain ⟨rfl, rfl, rfl⟩ := hcs
    exact ⟨[], rfl, fun h => absurd h (by simp), by simp, Nat.zero_le _⟩
  · simp [Value.cells] at hcs
    obtain ⟨rfl, rfl, rfl⟩ := hcs
    simp only [if_true] at hmm
    subst hmm
    rw [objCells] at hi
    obtain ⟨l, hll, hq⟩ := list_of (n := len) (Q := fun i (o : Ob) => ∃ (cs : List Value) (sa ra : Option Addr) (sc rc : Nat) (nm : ByteArray), W.cells? 0 (a.add (i * 7)) 7 = some cs ∧ cs[0]? = some (.string nm) ∧ cs[3]? = some (.slice sa o.syms.length sc) ∧ cs[4]? = some (.slice ra o.rels.length rc) ∧ RdS W sa o.syms ∧ o.syms.length ≤ sc ∧ RdR W ra o.rels ∧ o.rels.length ≤ maxLen) fun i hin => by
      obtain ⟨cs', hc, ht⟩ := hi i (by omega)
      obtain ⟨o, sa, ra, sc, rc, nm, -, g0, g3, g4, q⟩ := obj_of ht
      exact ⟨o, cs', sa, ra, sc, rc, nm, hc, g0, g3, g4, q⟩
    refine ⟨l, hll, fun h0 => ?_, fun o ho => ?_, by omega⟩
    · obtain ⟨b, off, spot⟩ := a
      have hspot : spot = none ∧ b < W.heap.size := by
        obtain ⟨cs, sa, ra, sc, rc, nm, hc, g0, -⟩ := hq 0 h0
        obtain ⟨_, hcl, hat⟩ := World.cells?_some hc
        have c0 := (hat 0 (by decide)).trans g0
        rw [Go.Deep.add_add] at c0
        exact ⟨by simpa [Addr.add] using World.cell?_spot c0, heap_lt_of_cell c0⟩
      obtain ⟨rfl, hb⟩ := hspot
      refine ⟨b, off, rfl, hb, fun k hk => ?_⟩
      obtain ⟨cs, sa, ra, sc, rc, nm, hc, g0, g3, g4, q1, q2, q3, q4⟩ := hq k hk
      obtain ⟨_, hcl, hat⟩ := World.cells?_some hc
      have c3 := (hat 3 (by decide)).trans g3
      have c4 := (hat 4 (by decide)).trans g4
      rw [Go.Deep.add_add, add_plain] at c3 c4
      exact ⟨sa, sc, ra, rc, by rw [Nat.add_assoc]; exact c3, by rw [Nat.add_assoc]; exact c4, q1, q2, q3⟩
    · obtain ⟨i, hi', rfl⟩ := List.getElem_of_mem ho
      obtain ⟨cs, sa, ra, sc, rc, nm, hc, g0, g3, g4, q1, q2, q3, q4⟩ := hq i hi'
      exact q4
/-- a slice of numbers as it comes in -/
theorem open_nums {W : World} {v : Value} {d : DataW H} {p : List MemPlace} {a0 : Option Addr} {len cap : Nat} (hv : v = .slice a0 len cap)
    (h : DataW.Trod enc Try.prog W 0 (fun _ => true) true 23 v d p) :
    ∃ l : List Int, l.length = len ∧ Rd W a0 l.length (i64s l) ∧ len ≤ maxLen := by
  subst hv
  obtain ⟨fuel, hf⟩ := h
  rcases open_slice Try.underlying23 hf with ⟨hcs, -⟩ | ⟨a, len', cap', m, n, D, Pl, hcs, -, hl, hm, hmm, -, hi⟩
  · simp [Value.cells] at hcs
    obtain ⟨rfl, rfl, rfl⟩ := hcs
    exact ⟨[], rfl, Rd.nil _ _, Nat.zero_le _⟩
  · simp [Value.cells] at hcs
    obtain ⟨rfl, rfl, rfl⟩ := hcs
    simp only [if_true] at hmm
    subst hmm
    rw [intCells] at hi
    obtain ⟨l, hll, hq⟩ := list_of (n := len) (Q := fun i (z : Int) => W.cell? (a.add i) = some (.int .i64 z)) fun i hin => by
      obtain ⟨cs', hc, ht⟩ := hi i (by omega)
      obtain ⟨z, e0, -, k0⟩ := DataW.trod_int Try.underlying3 ht
      subst e0
      exact ⟨z, cell_of_cells hc⟩
    refine ⟨l, hll, ⟨i64s_length l, fun h0 => ?_⟩, by omega⟩
    obtain ⟨b, off, spot⟩ := a
    have c0 := hq 0 h0
    have hspot : spot = none := by simpa [Addr.add] using World.cell?_spot c0
    subst hspot
    refine ⟨b, off, rfl, ?_, fun k hk => ?_⟩
    · have := heap_lt_of_cell c0
      rwa [add_plain] at this
    · rw [i64s_get l k hk, ← hq k hk, add_plain]
end
end Go.Proofs.Ythammjpadbbflaa
