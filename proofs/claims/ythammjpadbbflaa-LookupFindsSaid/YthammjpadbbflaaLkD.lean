/- A place of a scope: its box, its tables, and how they are made. -/
import Derived.Maps.AppendAt
import Derived.Deep.RegionWith
import Derived.Test.YthammjpadbbflaaLkC
namespace Go.Proofs.Ythammjpadbbflaa
set_option linter.unusedVariables false
set_option linter.unusedSimpArgs false
open Go.Joins Go.ChangeShapes Go.WideShapes Go.ChangeAt Go.RowKit Go.Deep Go.Shelf
attribute [local go_sem] Oper.semAt_some

/-- a block that holds these cells -/
def BoxN (W : World) (B : Nat) (cs : Array Value) : Prop := ∃ t, W.heap[B]? = some (.cells cs t (0, 0))
theorem BoxN.cell {W : World} {B : Nat} {cs : Array Value} (h : BoxN W B cs) (j : Nat) : W.cell? ⟨B, j, none⟩ = cs[j]? := by
  obtain ⟨t, h⟩ := h
  simp [World.cell?, h]
theorem BoxN.frozen {W : World} {B : Nat} {cs : Array Value} (h : BoxN W B cs) (j : Nat) : W.frozen? ⟨B, j, none⟩ = false := by
  obtain ⟨t, h⟩ := h
  simp [World.frozen?, h]
theorem BoxN.lt {W : World} {B : Nat} {cs : Array Value} (h : BoxN W B cs) : B < W.heap.size := by
  obtain ⟨t, h⟩ := h
  exact (Array.getElem?_eq_some_iff.1 h).1
theorem BoxN.new (W : World) (cs : Array Value) (t : TypeId) : BoxN (W.alloc (.cells cs t)) W.heap.size cs := ⟨t, heap_alloc_new W _⟩
theorem BoxN.below {W W' : World} {B : Nat} {cs : Array Value} {m : Nat} (h : BoxN W B cs) (hb : Below m W W') (hm : B < m) : BoxN W' B cs := by
  obtain ⟨t, h⟩ := h
  exact ⟨t, (hb.block B hm).trans h⟩
theorem BoxN.kp {W W' : World} {B n : Nat} {S : Nat → Prop} {cs : Array Value} (h : BoxN W B cs) (hk : KP n S W W') (hB : B < n) (hS : ¬ S B) : BoxN W' B cs := by
  obtain ⟨t, h⟩ := h
  exact ⟨t, (hk.block B hB hS).trans h⟩
theorem BoxN.grown {W W' : World} {B : Nat} {cs : Array Value} {row : Option Nat} (h : BoxN W B cs) (hg : W.grownBy W' row) (hr : row ≠ some B) : BoxN W' B cs := by
  have hl := h.lt
  obtain ⟨t, h⟩ := h
  exact ⟨t, (hg.block B hl (fun e => hr e.symm)).trans h⟩
theorem BoxN.other {W : World} {B B' j : Nat} {cs : Array Value} {x : Value} (h : BoxN W B cs) (hne : B ≠ B') : BoxN (W.setCell ⟨B', j, none⟩ x) B cs := by
  obtain ⟨t, h⟩ := h
  exact ⟨t, (Below.heap_setCell _ _ _ _ hne).trans h⟩
theorem BoxN.set {W : World} {B : Nat} {cs : Array Value} (h : BoxN W B cs) (j : Nat) (x : Value) : BoxN (W.setCell ⟨B, j, none⟩ x) B (cs.setIfInBounds j x) := by
  obtain ⟨t, h⟩ := h
  refine ⟨t, ?_⟩
  obtain ⟨hlt, hk⟩ := Array.getElem?_eq_some_iff.1 h
  show (W.heap.modify B _)[B]? = _
  rw [Array.getElem?_eq_getElem (by rw [Array.size_modify]; exact hlt), Array.getElem_modify_self, hk]
  rfl
theorem BoxN.drew {W : World} {B : Nat} {cs : Array Value} (h : BoxN W B cs) : BoxN W.drew B cs := h
theorem infoTab : (Try.prog.info? 100).map (fun i => (i.zero, i.size, i.bytes)) = some (some (.agg #[.slice none 0 0, .slice none 0 0]), 2, 48) := by kernel_rfl
/-- one table, behind none -/
theorem run_tab (w : World) (ty : TypeId) (g : Nat) (u v : Value) (hu : w.cell? ⟨g, 0, none⟩ = some u) (hv : w.cell? ⟨g, 1, none⟩ = some v) (h1 : u.oneCell' = true) (h2 : v.oneCell' = true) :
    ∃ T c w', (Builtin.append_ #[79, 79] ty #[.slice none 0 0, .slice (some ⟨g, 0, none⟩) 1 1]).run Try.prog w = .ok (.slice (some ⟨T, 0, none⟩) 1 c) w' ∧ w.heap.size ≤ T ∧ w'.cell? ⟨T, 0, none⟩ = some u ∧ w'.cell? ⟨T, 1, none⟩ = some v ∧ w.grownBy w' none := by
  obtain ⟨i0, hi, hz0, hz1, hz2⟩ := info_parts infoTab
  obtain ⟨v', w', h3, h4, h5, -, h6⟩ := run_append_own_at (P := Try.prog) w w.heap.size 79 ty 100 i0 (.agg #[.slice none 0 0, .slice none 0 0]) 2 48 Try.underlying79 hi hz0 hz1 hz2 rfl (by decide) (.slice none 0 0) 0 [] (World.ownsRow_nil _ _ _ _) ⟨g, 0, none⟩ 1 1 [u, v] rfl
    (fun j x hj => by
      rw [add_plain]
      match j, hj with
      | 0, hj => cases hj; simpa using hu
      | 1, hj => cases hj; simpa using hv
      | j + 2, hj => simp at hj)
    (fun x hx => by
      simp only [List.mem_cons, List.not_mem_nil, or_false] at hx
      rcases hx with rfl | rfl
      · exact h1
      · exact h2) (by unfold maxLen; omega) (by omega) (Nat.le_refl _)
  rcases h4.2 with ⟨-, h0⟩ | ⟨T, cap, cur, rfl, hT, -⟩
  · omega
  · have c0 := h4.cellAt 0 (by decide)
    have c1 := h4.cellAt 1 (by decide)
    exact ⟨T, cap, w', h3, hT, c0, c1, h5⟩
theorem step_tab (w : World) {ops : Array Oper} {o : Oper} {a : Act} {K : Act → World → Prop} {Q : Exit → Act → World → Prop} {E : Prop} (hgd : o.guard = none) (s x : Operand) (ho : o.op = .call { callee := .builtin .append, args := #[s, x], argTypes := #[79, 79] })
    (hs : a.eval s = .slice none 0 0) (g : Nat) (hx : a.eval x = .slice (some ⟨g, 0, none⟩) 1 1) (u v : Value) (hu : w.cell? ⟨g, 0, none⟩ = some u) (hv : w.cell? ⟨g, 1, none⟩ = some v) (h1 : u.oneCell' = true) (h2 : v.oneCell' = true)
    (h : ∀ T c w', w.heap.size ≤ T → w'.cell? ⟨T, 0, none⟩ = some u → w'.cell? ⟨T, 1, none⟩ = some v → w.grownBy w' none → K (a.put o.dst (.slice (some ⟨T, 0, none⟩) 1 c)) w') :
    if Region.wanted o (yielded ops a.tmps) = true then Oper.wp Try.prog o a w K Q else E := by
  have hw : Region.wanted o (yielded ops a.tmps) = true := by simp [Region.wanted, hgd]
  rw [if_pos hw]
  obtain ⟨T, c, w', hr, q1, q2, q3, q4⟩ := run_tab w o.type g u v hu hv h1 h2
  unfold Oper.wp execOp
  simp only [ho, resolve, invoke, builtin, Sem.run_bind, Sem.run_pure, Result.andThen_ok, List.map_toArray, List.map_cons, List.map_nil, hs, hx, hr]
  exact h T c w' q1 q2 q3 q4
/-- the tables of a list of symbols, in blocks of P -/
def TabY (P : Nat → Prop) (W : World) (l : List Sym) (tb : Value) : Prop :=
  ∃ T c Bk C, tb = .slice (some ⟨T, 0, none⟩) 1 c ∧ P T ∧ P Bk ∧ P C ∧ W.cell? ⟨T, 0, none⟩ = some (.slice (some ⟨Bk, 0, none⟩) 32 32) ∧ W.cell? ⟨T, 1, none⟩ = some (.slice (some ⟨C, 0, none⟩) l.length l.length) ∧
    Rd W (some ⟨Bk, 0, none⟩) 32 (i64s (bucketsZ l 32 32)) ∧ Rd W (some ⟨C, 0, none⟩) l.length (i64s (chainZ l 32 l.length))
def TabAt (P : Nat → Prop) (W : World) (l : List Sym) (tb : Value) : Prop := if l = [] then tb = .slice none 0 0 else TabY P W l tb
theorem rd_kept {W W' : World} {a : Option Addr} {n : Nat} {xs : List Value} {row : Option Nat} (h : Rd W a n xs) (hg : W.grownBy W' row) (hr : ∀ r, row = some r → ∃ o : Go.Obj, W.heap[r]? = some o ∧ o.isCells = false) : Rd W' a n xs :=
  ⟨h.1, fun hn => by
    obtain ⟨b, off, e, hl, hc⟩ := h.2 hn
    exact ⟨b, off, e, Nat.lt_of_lt_of_le hl hg.size, fun k hk => by
      have hx := hc k hk
      rw [List.getElem?_eq_getElem (by have := h.1; omega)] at hx ⊢
      exact cell_kept hx hg hr⟩⟩
theorem TabY.kept {P : Nat → Prop} {W W' : World} {l : List Sym} {tb : Value} {row : Option Nat} (h : TabY P W l tb) (hg : W.grownBy W' row) (hr : ∀ r, row = some r → ∃ o : Go.Obj, W.heap[r]? = some o ∧ o.isCells = false) : TabY P W' l tb := by
  obtain ⟨T, c, Bk, C, e, h1, h2, h3, h4, h5, h6, h7⟩ := h
  exact ⟨T, c, Bk, C, e, h1, h2, h3, cell_kept h4 hg hr, cell_kept h5 hg hr, rd_kept h6 hg hr, rd_kept h7 hg hr⟩
theorem TabY.kp {n : Nat} {P S : Nat → Prop} {W W' : World} {l : List Sym} {tb : Value} (h : TabY P W l tb) (hk : KP n S W W') (hn : W.heap.size ≤ n) (hS : ∀ b, P b → ¬ S b) : TabY P W' l tb := by
  obtain ⟨T, c, Bk, C, e, h1, h2, h3, h4, h5, h6, h7⟩ := h
  have hT := heap_lt_of_cell h4
  have hT' : T < W.heap.size := hT
  refine ⟨T, c, Bk, C, e, h1, h2, h3, hk.cell (by omega) (hS T h1) h4, hk.cell (by omega) (hS T h1) h5, hk.rd h6 fun b off h0 e => ?_, hk.rd h7 fun b off h0 e => ?_⟩
  · obtain ⟨b', off', e', hl, -⟩ := h6.2 h0
    cases e; cases e'
    exact ⟨by omega, hS _ h2⟩
  · obtain ⟨b', off', e', hl, -⟩ := h7.2 h0
    cases e; cases e'
    exact ⟨by omega, hS _ h3⟩
theorem TabY.mono {P P' : Nat → Prop} {W : World} {l : List Sym} {tb : Value} (h : TabY P W l tb) (hl : ∀ b, b < W.heap.size → P b → P' b) (h0 : l ≠ []) : TabY P' W l tb := by
  obtain ⟨T, c, Bk, C, e, h1, h2, h3, h4, h5, h6, h7⟩ := h
  have hT : T < W.heap.size := heap_lt_of_cell h4
  obtain ⟨b1, o1, e1, l1, -⟩ := h6.2 (by decide)
  cases e1
  obtain ⟨b2, o2, e2, l2, -⟩ := h7.2 (List.length_pos_iff.2 h0)
  cases e2
  exact ⟨T, c, _, _, e, hl _ hT h1, hl _ l1 h2, hl _ l2 h3, h4, h5, h6, h7⟩
theorem BoxN.kept {W W' : World} {B : Nat} {cs : Array Value} {row : Option Nat} (h : BoxN W B cs) (hg : W.grownBy W' row) (hr : ∀ r, row = some r → ∃ o : Go.Obj, W.heap[r]? = some o ∧ o.isCells = false) : BoxN W' B cs :=
  h.grown hg fun e => by
    obtain ⟨o, ho, hc⟩ := hr B e
    obtain ⟨t, h⟩ := h
    rw [h] at ho
    cases ho
    cases hc
end Go.Proofs.Ythammjpadbbflaa
