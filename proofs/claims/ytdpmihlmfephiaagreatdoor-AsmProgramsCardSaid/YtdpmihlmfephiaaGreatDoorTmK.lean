/- What a call leaves as it was; a block of cells; append at any element type. -/
import Derived.Test.YtdpmihlmfephiaaGreatDoorWordD
import Derived.LoopTactic
import Derived.Outline
import Derived.OpenShut
import Derived.Lib.Hide
import Derived.Lib.SmallJoins
import Derived.Deep.RegionHeld3
import Derived.Deep.RegionWith
import Derived.Laws.NewBlocks
import Derived.Maps.AppendAt
import Derived.OwnWalk
import Derived.WalkMore
import Derived.BigRegion
namespace Go.Proofs.YtdpmihlmfephiaaGreatDoor
set_option linter.unusedVariables false
set_option linter.unusedSimpArgs false
open Go.Joins Go.ChangeShapes Go.WideShapes Go.ChangeAt Go.RowKit Go.Deep

/-- what lay below n, but blocks of S, lies as it lay -/
structure KP (n : Nat) (S : Nat → Prop) (W W' : World) : Prop where
  os : W'.os = W.os
  tape : W'.tape = W.tape
  output : W'.output = W.output
  size : W.heap.size ≤ W'.heap.size
  block : ∀ b, b < n → ¬ S b → W'.heap[b]? = W.heap[b]?
theorem KP.refl (n : Nat) (S : Nat → Prop) (W : World) : KP n S W W := ⟨rfl, rfl, rfl, Nat.le_refl _, fun _ _ _ => rfl⟩
theorem KP.trans {n : Nat} {S : Nat → Prop} {A B C : World} (h : KP n S A B) (k : KP n S B C) : KP n S A C := ⟨k.os.trans h.os, k.tape.trans h.tape, k.output.trans h.output, Nat.le_trans h.size k.size, fun b h1 h2 => (k.block b h1 h2).trans (h.block b h1 h2)⟩
theorem KP.mono {n m : Nat} {S T : Nat → Prop} {A B : World} (h : KP n S A B) (hm : m ≤ n) (hS : ∀ b, b < m → S b → T b) : KP m T A B := ⟨h.os, h.tape, h.output, h.size, fun b h1 h2 => h.block b (by omega) (fun q => h2 (hS b h1 q))⟩
theorem KP.grown {n : Nat} {S : Nat → Prop} {A B C : World} {row : Option Nat} (h : KP n S A B) (hg : B.grownBy C row) (hn : n ≤ B.heap.size) (hr : ∀ r, row = some r → n ≤ r ∨ S r) : KP n S A C :=
  h.trans ⟨hg.os, hg.tape, hg.output, hg.size, fun b h1 h2 => hg.block b (by omega) (fun e => by rcases hr b e.symm with h3 | h3; omega; exact h2 h3)⟩
theorem KP.below {n : Nat} {S : Nat → Prop} {A B C : World} {m : Nat} (h : KP n S A B) (hb : Below m B C) (hn : n ≤ m) : KP n S A C :=
  h.trans ⟨hb.os, hb.tape, hb.output, hb.size, fun b h1 _ => hb.block b (by omega)⟩
theorem KP.set {n : Nat} {S : Nat → Prop} {A B : World} (h : KP n S A B) (p : Addr) (hp : n ≤ p.block ∨ S p.block) (u : Value) : KP n S A (B.setCell p u) :=
  h.trans ⟨((Below.refl 0 B).setCell (p := p) (Nat.zero_le _) u).os, ((Below.refl 0 B).setCell (p := p) (Nat.zero_le _) u).tape, ((Below.refl 0 B).setCell (p := p) (Nat.zero_le _) u).output, ((Below.refl 0 B).setCell (p := p) (Nat.zero_le _) u).size, fun b h1 h2 => Below.heap_setCell _ _ _ _ (fun e => by rcases hp with h3 | h3; omega; exact h2 (e ▸ h3))⟩
theorem KP.set1 (W : World) (R j : Nat) (u : Value) : KP W.heap.size (· = R) W (W.setCell ⟨R, j, none⟩ u) := (KP.refl W.heap.size (· = R) W).set ⟨R, j, none⟩ (Or.inr rfl) u
theorem KP.drew {n : Nat} {S : Nat → Prop} {A B : World} (h : KP n S A B) : KP n S A B.drew := h.trans ⟨rfl, rfl, rfl, Nat.le_refl _, fun _ _ _ => rfl⟩
theorem KP.alloc {n : Nat} {S : Nat → Prop} {A B : World} (h : KP n S A B) (o : Obj) (hn : n ≤ B.heap.size) : KP n S A (B.alloc o) := h.below (bAlloc (Below.refl _ _) o) hn
theorem KP.cell {n : Nat} {S : Nat → Prop} {A B : World} (h : KP n S A B) {b off : Nat} {v : Value} (hb : b < n) (hx : ¬ S b) (hc : A.cell? ⟨b, off, none⟩ = some v) : B.cell? ⟨b, off, none⟩ = some v := (World.cell?_of_block (h.block b hb hx)).trans hc
theorem KP.frozen {n : Nat} {S : Nat → Prop} {A B : World} (h : KP n S A B) {b off : Nat} {q : Bool} (hb : b < n) (hx : ¬ S b) (hc : A.frozen? ⟨b, off, none⟩ = q) : B.frozen? ⟨b, off, none⟩ = q := (World.frozen?_of_block (h.block b hb hx)).trans hc
theorem KP.rd {n : Nat} {S : Nat → Prop} {A B : World} (h : KP n S A B) {a : Option Addr} {m : Nat} {xs : List Value} (hr : Rd A a m xs) (hx : ∀ b off, 0 < m → a = some ⟨b, off, none⟩ → b < n ∧ ¬ S b) : Rd B a m xs :=
  ⟨hr.1, fun hn => by
    obtain ⟨b, off, e, hl, hc⟩ := hr.2 hn
    obtain ⟨h1, h2⟩ := hx b off hn e
    exact ⟨b, off, e, Nat.lt_of_lt_of_le hl h.size, fun k hk => (World.cell?_of_block (h.block b h1 h2)).trans (hc k hk)⟩⟩
/-- a block that holds these cells -/
def BoxN (W : World) (B : Nat) (cs : Array Value) : Prop := ∃ t, W.heap[B]? = some (.cells cs t (0, 0))
theorem BoxN.cell {W : World} {B : Nat} {cs : Array Value} (h : BoxN W B cs) (j : Nat) : W.cell? ⟨B, j, none⟩ = cs[j]? := by
  obtain ⟨t, h⟩ := h
  simp [World.cell?, h]
theorem BoxN.frozen {W : World} {B : Nat} {cs : Array Value} (h : BoxN W B cs) (j : Nat) : W.frozen? ⟨B, j, none⟩ = false := by
  obtain ⟨t, h⟩ := h
  simp [World.frozen?, h]
theorem BoxN.lt {W : World} {B : Nat} {cs : Array Value} (h : BoxN W B cs) : B < W.heap.size := by
  obtain ⟨t, h⟩ := h
  exact (Array.getElem?_eq_some_iff.1 h).1
theorem BoxN.new (W : World) (cs : Array Value) (t : TypeId) : BoxN (W.alloc (.cells cs t)) W.heap.size cs := ⟨t, heap_alloc_new W _⟩
theorem BoxN.below {W W' : World} {B : Nat} {cs : Array Value} {m : Nat} (h : BoxN W B cs) (hb : Below m W W') (hm : B < m) : BoxN W' B cs := by
  obtain ⟨t, h⟩ := h
  exact ⟨t, (hb.block B hm).trans h⟩
theorem BoxN.set {W : World} {B : Nat} {cs : Array Value} (h : BoxN W B cs) (j : Nat) (x : Value) : BoxN (W.setCell ⟨B, j, none⟩ x) B (cs.setIfInBounds j x) := by
  obtain ⟨t, h⟩ := h
  refine ⟨t, ?_⟩
  obtain ⟨hlt, hk⟩ := Array.getElem?_eq_some_iff.1 h
  show (W.heap.modify B _)[B]? = _
  rw [Array.getElem?_eq_getElem (by rw [Array.size_modify]; exact hlt), Array.getElem_modify_self, hk]
  rfl

theorem KP.of_below {W W' : World} (S : Nat → Prop) (hb : Below W.heap.size W W') : KP W.heap.size S W W' := ⟨hb.os, hb.tape, hb.output, hb.size, fun b h1 _ => hb.block b h1⟩
theorem run_appE {P : Program} (sl el : TypeId) (z : Value) (k bytes : Nat) (hu : P.underlying sl = some (.slice el)) (hinfo : (P.info? el).map (fun i => (i.zero, i.size, i.bytes)) = some (some z, k, bytes)) (hzs : z.cells.size = k) (hk : 0 < k) (hby : bytes ≤ 1000)
    (w : World) (ty : TypeId) (B : Nat) (v : Value) (n : Nat) (xs : List Value) (hown : w.ownsRow B el k v n xs) (am : Option Addr) (m c : Nat) (ys : List Value) (hr : Rd w am (m * k) ys) (hone : ∀ u ∈ ys, u.oneCell' = true) (hnm : n + m ≤ 1000000) (hB : B ≤ w.heap.size) :
    ∃ a' c' w', (Builtin.append_ #[sl, sl] ty #[v, .slice am m c]).run P w = .ok (.slice a' (n + m) c') w' ∧ w'.ownsRow B el k (.slice a' (n + m) c') (n + m) (xs ++ ys) ∧ w.grownBy w' v.ownBlock ∧ ((Value.slice a' (n + m) c').ownBlock = v.ownBlock ∨ (Value.slice a' (n + m) c').ownBlock = some w.heap.size) := by
  obtain ⟨i0, hi, hz0, hz1, hz2⟩ := info_parts hinfo
  cases am with
  | none =>
    have hm0 : m = 0 := by
      rcases Nat.eq_zero_or_pos m with h | h
      · exact h
      · obtain ⟨b, off, e, -⟩ := hr.2 (Nat.mul_pos h hk); cases e
    subst hm0
    have hy : ys = [] := List.eq_nil_of_length_eq_zero (by have := hr.1; simpa using this)
    subst hy
    obtain ⟨a', c', rfl, -⟩ := own_slice hown
    refine ⟨a', c', w, ?_, by simpa using hown, ⟨rfl, rfl, rfl, Nat.le_refl _, fun _ _ _ => rfl⟩, Or.inl rfl⟩
    rcases hown.2 with ⟨h1, rfl⟩ | ⟨g, cap, cur, h1, _, _, hnc, _⟩
    · cases h1
      simp [Builtin.append_, run_underlying hu, sizeOf, typeInfo, hi, Builtin.lenOf, Builtin.firstCells]
    · cases h1
      simp [Builtin.append_, run_underlying hu, sizeOf, typeInfo, hi, Builtin.lenOf, Builtin.firstCells, hnc, storeCells]
  | some ad =>
    have hl : ys.length = m * k := hr.1
    have hnews : ∀ j u, ys[j]? = some u → w.cell? (ad.add j) = some u := by
      intro j u hj
      have hjm : j < m * k := by
        have := (List.getElem?_eq_some_iff.1 hj).1
        rw [hl] at this; exact this
      obtain ⟨b, off, e, -, hc⟩ := Rd.at_ hr hjm
      cases e
      rw [hj] at hc
      rw [add_plain]
      exact hc
    obtain ⟨v', w', h2, h3, h4, -, h5⟩ := run_append_own_at (P := P) w B sl ty el i0 z k bytes hu hi hz0 hz1 hz2 hzs hk v n xs hown ad m c ys hl hnews hone (by unfold maxLen; omega)
      (Nat.le_trans (Nat.mul_le_mul hnm hby) (by decide)) hB
    obtain ⟨a', c', rfl, -⟩ := own_slice h3
    exact ⟨a', c', w', h2, h3, h4, h5⟩
theorem wpList_appE {P : Program} (sl el : TypeId) (z : Value) (k bytes : Nat) (hu : P.underlying sl = some (.slice el)) (hinfo : (P.info? el).map (fun i => (i.zero, i.size, i.bytes)) = some (some z, k, bytes)) (hzs : z.cells.size = k) (hk : 0 < k) (hby : bytes ≤ 1000)
    (w : World) {ops : Array Oper} {rest : List Oper} {o : Oper} {a : Act} {Q : Exit → Act → World → Prop} (hgd : o.guard = none) (s x : Operand) (ho : o.op = .call { callee := .builtin .append, args := #[s, x], argTypes := #[sl, sl] })
    (B : Nat) (v : Value) (n : Nat) (xs : List Value) (hs : a.eval s = v) (hown : w.ownsRow B el k v n xs) (am : Option Addr) (m c : Nat) (ys : List Value) (hx : a.eval x = .slice am m c) (hr : Rd w am (m * k) ys) (hone : ∀ u ∈ ys, u.oneCell' = true) (hnm : n + m ≤ 1000000) (hB : B ≤ w.heap.size)
    (h : ∀ a' c' w', w'.ownsRow B el k (.slice a' (n + m) c') (n + m) (xs ++ ys) → w.grownBy w' v.ownBlock → ((Value.slice a' (n + m) c').ownBlock = v.ownBlock ∨ (Value.slice a' (n + m) c').ownBlock = some w.heap.size) → wpList P ops Q rest (a.put o.dst (.slice a' (n + m) c')) w') : wpList P ops Q (o :: rest) a w := by
  refine wpList_plain hgd fun K hK => ?_
  obtain ⟨a', c', w', hrun, h2, h3, h4⟩ := run_appE sl el z k bytes hu hinfo hzs hk hby w o.type B v n xs hown am m c ys hr hone hnm hB
  unfold Oper.wp execOp
  simp only [ho, resolve, invoke, builtin, Sem.run_bind, Sem.run_pure, Result.andThen_ok, List.map_toArray, List.map_cons, List.map_nil, hs, hx, hrun]
  exact hK _ _ (h a' c' w' h2 h3 h4)
theorem step_appE {P : Program} (sl el : TypeId) (z : Value) (k bytes : Nat) (hu : P.underlying sl = some (.slice el)) (hinfo : (P.info? el).map (fun i => (i.zero, i.size, i.bytes)) = some (some z, k, bytes)) (hzs : z.cells.size = k) (hk : 0 < k) (hby : bytes ≤ 1000)
    (w : World) {ops : Array Oper} {o : Oper} {a : Act} {K : Act → World → Prop} {Q : Exit → Act → World → Prop} {E : Prop} (hgd : o.guard = none) (s x : Operand) (ho : o.op = .call { callee := .builtin .append, args := #[s, x], argTypes := #[sl, sl] })
    (B : Nat) (v : Value) (n : Nat) (xs : List Value) (hs : a.eval s = v) (hown : w.ownsRow B el k v n xs) (am : Option Addr) (m c : Nat) (ys : List Value) (hx : a.eval x = .slice am m c) (hr : Rd w am (m * k) ys) (hone : ∀ u ∈ ys, u.oneCell' = true) (hnm : n + m ≤ 1000000) (hB : B ≤ w.heap.size)
    (h : ∀ a' c' w', w'.ownsRow B el k (.slice a' (n + m) c') (n + m) (xs ++ ys) → w.grownBy w' v.ownBlock → ((Value.slice a' (n + m) c').ownBlock = v.ownBlock ∨ (Value.slice a' (n + m) c').ownBlock = some w.heap.size) → K (a.put o.dst (.slice a' (n + m) c')) w') :
    if Region.wanted o (yielded ops a.tmps) = true then Oper.wp P o a w K Q else E := by
  have hw : Region.wanted o (yielded ops a.tmps) = true := by simp [Region.wanted, hgd]
  rw [if_pos hw]
  obtain ⟨a', c', w', hrun, h2, h3, h4⟩ := run_appE sl el z k bytes hu hinfo hzs hk hby w o.type B v n xs hown am m c ys hr hone hnm hB
  unfold Oper.wp execOp
  simp only [ho, resolve, invoke, builtin, Sem.run_bind, Sem.run_pure, Result.andThen_ok, List.map_toArray, List.map_cons, List.map_nil, hs, hx, hrun]
  exact h a' c' w' h2 h3 h4
theorem boxN_alloc {W : World} {B : Nat} {cs : Array Value} (h : BoxN W B cs) (o : Obj) : BoxN (W.alloc o) B cs := h.below (bAlloc (Below.refl _ _) o) h.lt
theorem boxN_below {W W' : World} {B : Nat} {cs : Array Value} (h : BoxN W B cs) (hb : Below W.heap.size W W') : BoxN W' B cs := h.below hb h.lt
theorem below_dN (W : World) (n : Nat) : Below W.heap.size W (W.drewN n) := ⟨rfl, rfl, rfl, Nat.le_refl _, fun _ _ => rfl⟩
end Go.Proofs.YtdpmihlmfephiaaGreatDoor
