/- Ta1 -/
import Derived.Test.YtegoddghfjfibaaGreatDoorZ01
import Derived.LoopTactic
import Derived.Outline
import Derived.OpenShut
import Derived.Lib.Hide
import Derived.Lib.SmallJoins
import Derived.Deep.RegionHeld3
import Derived.Deep.RegionWith
import Derived.Laws.NewBlocks
import Derived.Maps.AppendAt
import Derived.OwnWalk
import Derived.WalkMore
import Derived.BigRegion
import Derived.Test.YtegoddghfjfibaaGreatDoorZ02
import Derived.Maps.OwnSet
import Derived.Deep.Cut
import Derived.Deep.QuietTactic
import Derived.Laws.CopyOwn
namespace Go.Proofs.YtegoddghfjfibaaGreatDoor
set_option linter.unusedVariables false
set_option linter.unusedSimpArgs false
open Go.Joins Go.ChangeShapes Go.WideShapes Go.ChangeAt Go.RowKit Go.Deep

/-- what lay below n, but blocks of S, lies as it lay -/
structure KP (n : Nat) (S : Nat → Prop) (W W' : World) : Prop where
  os : W'.os = W.os
  tape : W'.tape = W.tape
  output : W'.output = W.output
  size : W.heap.size ≤ W'.heap.size
  block : ∀ b, b < n → ¬ S b → W'.heap[b]? = W.heap[b]?
theorem KP.refl (n : Nat) (S : Nat → Prop) (W : World) : KP n S W W := ⟨rfl, rfl, rfl, Nat.le_refl _, fun _ _ _ => rfl⟩
theorem KP.trans {n : Nat} {S : Nat → Prop} {A B C : World} (h : KP n S A B) (k : KP n S B C) : KP n S A C := ⟨k.os.trans h.os, k.tape.trans h.tape, k.output.trans h.output, Nat.le_trans h.size k.size, fun b h1 h2 => (k.block b h1 h2).trans (h.block b h1 h2)⟩
theorem KP.mono {n m : Nat} {S T : Nat → Prop} {A B : World} (h : KP n S A B) (hm : m ≤ n) (hS : ∀ b, b < m → S b → T b) : KP m T A B := ⟨h.os, h.tape, h.output, h.size, fun b h1 h2 => h.block b (by omega) (fun q => h2 (hS b h1 q))⟩
theorem KP.grown {n : Nat} {S : Nat → Prop} {A B C : World} {row : Option Nat} (h : KP n S A B) (hg : B.grownBy C row) (hn : n ≤ B.heap.size) (hr : ∀ r, row = some r → n ≤ r ∨ S r) : KP n S A C :=
  h.trans ⟨hg.os, hg.tape, hg.output, hg.size, fun b h1 h2 => hg.block b (by omega) (fun e => by rcases hr b e.symm with h3 | h3; omega; exact h2 h3)⟩
theorem KP.below {n : Nat} {S : Nat → Prop} {A B C : World} {m : Nat} (h : KP n S A B) (hb : Below m B C) (hn : n ≤ m) : KP n S A C :=
  h.trans ⟨hb.os, hb.tape, hb.output, hb.size, fun b h1 _ => hb.block b (by omega)⟩
theorem KP.set {n : Nat} {S : Nat → Prop} {A B : World} (h : KP n S A B) (p : Addr) (hp : n ≤ p.block ∨ S p.block) (u : Value) : KP n S A (B.setCell p u) :=
  h.trans ⟨((Below.refl 0 B).setCell (p := p) (Nat.zero_le _) u).os, ((Below.refl 0 B).setCell (p := p) (Nat.zero_le _) u).tape, ((Below.refl 0 B).setCell (p := p) (Nat.zero_le _) u).output, ((Below.refl 0 B).setCell (p := p) (Nat.zero_le _) u).size, fun b h1 h2 => Below.heap_setCell _ _ _ _ (fun e => by rcases hp with h3 | h3; omega; exact h2 (e ▸ h3))⟩
theorem KP.set1 (W : World) (R j : Nat) (u : Value) : KP W.heap.size (· = R) W (W.setCell ⟨R, j, none⟩ u) := (KP.refl W.heap.size (· = R) W).set ⟨R, j, none⟩ (Or.inr rfl) u
theorem KP.drew {n : Nat} {S : Nat → Prop} {A B : World} (h : KP n S A B) : KP n S A B.drew := h.trans ⟨rfl, rfl, rfl, Nat.le_refl _, fun _ _ _ => rfl⟩
theorem KP.alloc {n : Nat} {S : Nat → Prop} {A B : World} (h : KP n S A B) (o : Obj) (hn : n ≤ B.heap.size) : KP n S A (B.alloc o) := h.below (bAlloc (Below.refl _ _) o) hn
theorem KP.cell {n : Nat} {S : Nat → Prop} {A B : World} (h : KP n S A B) {b off : Nat} {v : Value} (hb : b < n) (hx : ¬ S b) (hc : A.cell? ⟨b, off, none⟩ = some v) : B.cell? ⟨b, off, none⟩ = some v := (World.cell?_of_block (h.block b hb hx)).trans hc
theorem KP.frozen {n : Nat} {S : Nat → Prop} {A B : World} (h : KP n S A B) {b off : Nat} {q : Bool} (hb : b < n) (hx : ¬ S b) (hc : A.frozen? ⟨b, off, none⟩ = q) : B.frozen? ⟨b, off, none⟩ = q := (World.frozen?_of_block (h.block b hb hx)).trans hc
theorem KP.rd {n : Nat} {S : Nat → Prop} {A B : World} (h : KP n S A B) {a : Option Addr} {m : Nat} {xs : List Value} (hr : Rd A a m xs) (hx : ∀ b off, 0 < m → a = some ⟨b, off, none⟩ → b < n ∧ ¬ S b) : Rd B a m xs :=
  ⟨hr.1, fun hn => by
    obtain ⟨b, off, e, hl, hc⟩ := hr.2 hn
    obtain ⟨h1, h2⟩ := hx b off hn e
    exact ⟨b, off, e, Nat.lt_of_lt_of_le hl h.size, fun k hk => (World.cell?_of_block (h.block b h1 h2)).trans (hc k hk)⟩⟩
/-- all that lay before, the world apart -/
theorem KP.to_below {n : Nat} {S : Nat → Prop} {A B : World} (h : KP n S A B) {m : Nat} (hm : m ≤ n) (hS : ∀ b, b < m → ¬ S b) : Below m A B := ⟨h.os, h.tape, h.output, h.size, fun b hb => h.block b (by omega) (hS b hb)⟩
/-- a block that holds these cells -/
def BoxN (W : World) (B : Nat) (cs : Array Value) : Prop := ∃ t, W.heap[B]? = some (.cells cs t (0, 0))
theorem BoxN.cell {W : World} {B : Nat} {cs : Array Value} (h : BoxN W B cs) (j : Nat) : W.cell? ⟨B, j, none⟩ = cs[j]? := by
  obtain ⟨t, h⟩ := h
  simp [World.cell?, h]
theorem BoxN.frozen {W : World} {B : Nat} {cs : Array Value} (h : BoxN W B cs) (j : Nat) : W.frozen? ⟨B, j, none⟩ = false := by
  obtain ⟨t, h⟩ := h
  simp [World.frozen?, h]
theorem BoxN.lt {W : World} {B : Nat} {cs : Array Value} (h : BoxN W B cs) : B < W.heap.size := by
  obtain ⟨t, h⟩ := h
  exact (Array.getElem?_eq_some_iff.1 h).1
theorem BoxN.new (W : World) (cs : Array Value) (t : TypeId) : BoxN (W.alloc (.cells cs t)) W.heap.size cs := ⟨t, heap_alloc_new W _⟩
theorem BoxN.below {W W' : World} {B : Nat} {cs : Array Value} {m : Nat} (h : BoxN W B cs) (hb : Below m W W') (hm : B < m) : BoxN W' B cs := by
  obtain ⟨t, h⟩ := h
  exact ⟨t, (hb.block B hm).trans h⟩
theorem BoxN.kp {W W' : World} {B n : Nat} {S : Nat → Prop} {cs : Array Value} (h : BoxN W B cs) (hk : KP n S W W') (hB : B < n) (hS : ¬ S B) : BoxN W' B cs := by
  obtain ⟨t, h⟩ := h
  exact ⟨t, (hk.block B hB hS).trans h⟩
theorem BoxN.set {W : World} {B : Nat} {cs : Array Value} (h : BoxN W B cs) (j : Nat) (x : Value) : BoxN (W.setCell ⟨B, j, none⟩ x) B (cs.setIfInBounds j x) := by
  obtain ⟨t, h⟩ := h
  refine ⟨t, ?_⟩
  obtain ⟨hlt, hk⟩ := Array.getElem?_eq_some_iff.1 h
  show (W.heap.modify B _)[B]? = _
  rw [Array.getElem?_eq_getElem (by rw [Array.size_modify]; exact hlt), Array.getElem_modify_self, hk]
  rfl

theorem KP.of_below {W W' : World} (S : Nat → Prop) (hb : Below W.heap.size W W') : KP W.heap.size S W W' := ⟨hb.os, hb.tape, hb.output, hb.size, fun b h1 _ => hb.block b h1⟩
theorem run_appE {P : Program} (sl el : TypeId) (z : Value) (k bytes : Nat) (hu : P.underlying sl = some (.slice el)) (hinfo : (P.info? el).map (fun i => (i.zero, i.size, i.bytes)) = some (some z, k, bytes)) (hzs : z.cells.size = k) (hk : 0 < k) (hby : bytes ≤ 1000)
    (w : World) (ty : TypeId) (B : Nat) (v : Value) (n : Nat) (xs : List Value) (hown : w.ownsRow B el k v n xs) (am : Option Addr) (m c : Nat) (ys : List Value) (hr : Rd w am (m * k) ys) (hone : ∀ u ∈ ys, u.oneCell' = true) (hnm : n + m ≤ 1000000) (hB : B ≤ w.heap.size) :
    ∃ a' c' w', (Builtin.append_ #[sl, sl] ty #[v, .slice am m c]).run P w = .ok (.slice a' (n + m) c') w' ∧ w'.ownsRow B el k (.slice a' (n + m) c') (n + m) (xs ++ ys) ∧ w.grownBy w' v.ownBlock ∧ ((Value.slice a' (n + m) c').ownBlock = v.ownBlock ∨ (Value.slice a' (n + m) c').ownBlock = some w.heap.size) := by
  obtain ⟨i0, hi, hz0, hz1, hz2⟩ := info_parts hinfo
  cases am with
  | none =>
    have hm0 : m = 0 := by
      rcases Nat.eq_zero_or_pos m with h | h
      · exact h
      · obtain ⟨b, off, e, -⟩ := hr.2 (Nat.mul_pos h hk); cases e
    subst hm0
    have hy : ys = [] := List.eq_nil_of_length_eq_zero (by have := hr.1; simpa using this)
    subst hy
    obtain ⟨a', c', rfl, -⟩ := own_slice hown
    refine ⟨a', c', w, ?_, by simpa using hown, ⟨rfl, rfl, rfl, Nat.le_refl _, fun _ _ _ => rfl⟩, Or.inl rfl⟩
    rcases hown.2 with ⟨h1, rfl⟩ | ⟨g, cap, cur, h1, _, _, hnc, _⟩
    · cases h1
      simp [Builtin.append_, run_underlying hu, sizeOf, typeInfo, hi, Builtin.lenOf, Builtin.firstCells]
    · cases h1
      simp [Builtin.append_, run_underlying hu, sizeOf, typeInfo, hi, Builtin.lenOf, Builtin.firstCells, hnc, storeCells]
  | some ad =>
    have hl : ys.length = m * k := hr.1
    have hnews : ∀ j u, ys[j]? = some u → w.cell? (ad.add j) = some u := by
      intro j u hj
      have hjm : j < m * k := by
        have := (List.getElem?_eq_some_iff.1 hj).1
        rw [hl] at this; exact this
      obtain ⟨b, off, e, -, hc⟩ := Rd.at_ hr hjm
      cases e
      rw [hj] at hc
      rw [add_plain]
      exact hc
    obtain ⟨v', w', h2, h3, h4, -, h5⟩ := run_append_own_at (P := P) w B sl ty el i0 z k bytes hu hi hz0 hz1 hz2 hzs hk v n xs hown ad m c ys hl hnews hone (by unfold maxLen; omega)
      (Nat.le_trans (Nat.mul_le_mul hnm hby) (by decide)) hB
    obtain ⟨a', c', rfl, -⟩ := own_slice h3
    exact ⟨a', c', w', h2, h3, h4, h5⟩
theorem wpList_appE {P : Program} (sl el : TypeId) (z : Value) (k bytes : Nat) (hu : P.underlying sl = some (.slice el)) (hinfo : (P.info? el).map (fun i => (i.zero, i.size, i.bytes)) = some (some z, k, bytes)) (hzs : z.cells.size = k) (hk : 0 < k) (hby : bytes ≤ 1000)
    (w : World) {ops : Array Oper} {rest : List Oper} {o : Oper} {a : Act} {Q : Exit → Act → World → Prop} (hgd : o.guard = none) (s x : Operand) (ho : o.op = .call { callee := .builtin .append, args := #[s, x], argTypes := #[sl, sl] })
    (B : Nat) (v : Value) (n : Nat) (xs : List Value) (hs : a.eval s = v) (hown : w.ownsRow B el k v n xs) (am : Option Addr) (m c : Nat) (ys : List Value) (hx : a.eval x = .slice am m c) (hr : Rd w am (m * k) ys) (hone : ∀ u ∈ ys, u.oneCell' = true) (hnm : n + m ≤ 1000000) (hB : B ≤ w.heap.size)
    (h : ∀ a' c' w', w'.ownsRow B el k (.slice a' (n + m) c') (n + m) (xs ++ ys) → w.grownBy w' v.ownBlock → ((Value.slice a' (n + m) c').ownBlock = v.ownBlock ∨ (Value.slice a' (n + m) c').ownBlock = some w.heap.size) → wpList P ops Q rest (a.put o.dst (.slice a' (n + m) c')) w') : wpList P ops Q (o :: rest) a w := by
  refine wpList_plain hgd fun K hK => ?_
  obtain ⟨a', c', w', hrun, h2, h3, h4⟩ := run_appE sl el z k bytes hu hinfo hzs hk hby w o.type B v n xs hown am m c ys hr hone hnm hB
  unfold Oper.wp execOp
  simp only [ho, resolve, invoke, builtin, Sem.run_bind, Sem.run_pure, Result.andThen_ok, List.map_toArray, List.map_cons, List.map_nil, hs, hx, hrun]
  exact hK _ _ (h a' c' w' h2 h3 h4)
theorem boxN_below {W W' : World} {B : Nat} {cs : Array Value} (h : BoxN W B cs) (hb : Below W.heap.size W W') : BoxN W' B cs := h.below hb h.lt
theorem below_dN (W : World) (n : Nat) : Below W.heap.size W (W.drewN n) := ⟨rfl, rfl, rfl, Nat.le_refl _, fun _ _ => rfl⟩
end Go.Proofs.YtegoddghfjfibaaGreatDoor

namespace Go.Proofs.YtegoddghfjfibaaGreatDoor
set_option linter.unusedVariables false
set_option linter.unusedSimpArgs false
open Go.Joins Go.ChangeShapes Go.WideShapes Go.ChangeAt Go.RowKit Go.Deep

/-- how a page's pointer reads: its block, or -1 -/
def pgR : Value → Option (DataW Unit × List MemPlace)
  | .pointer none => some (.lit (.int .i64 (-1)), [])
  | .pointer (some ⟨b, 0, none⟩) => some (.lit (.int .i64 (b : Int)), [])
  | _ => none
theorem pgR_some {v : Value} {b : Nat} {ps : List MemPlace} (h : pgR v = some (.lit (.int .i64 (b : Int)), ps)) : v = .pointer (some ⟨b, 0, none⟩) := by
  unfold pgR at h
  split at h
  · simp only [Option.some.injEq, Prod.mk.injEq, DataW.lit.injEq, Lit.int.injEq] at h
    omega
  · simp only [Option.some.injEq, Prod.mk.injEq, DataW.lit.injEq, Lit.int.injEq] at h
    obtain ⟨⟨-, h⟩, -⟩ := h
    have := Int.ofNat.inj h
    subst this
    rfl
  · cases h
theorem pgR_none {v : Value} {ps : List MemPlace} (h : pgR v = some (.lit (.int .i64 (-1)), ps)) : v = .pointer none := by
  unfold pgR at h
  split at h
  · rfl
  · simp only [Option.some.injEq, Prod.mk.injEq, DataW.lit.injEq, Lit.int.injEq] at h
    omega
  · cases h
theorem keyed : Maps.Keyed Tryz.prog 22 := Maps.int_keyed Tryz.underlying22
theorem zeroPage (w : World) : (zeroValue 103).run Tryz.prog w = .ok (.pointer none) w := by kernel_rfl
theorem key_u64 (p : Int) (h0 : 0 ≤ p) (h1 : p < 18446744073709551616) : keyOf Tryz.prog 22 (.int .u64 p) = some (.int .u64 p) :=
  Maps.keyOf_int_mk Tryz.underlying22 (by simp [Lit.wf, IntKind.min, IntKind.max, IntKind.signed, IntKind.bits]; omega)
/-- a page's cells -/
def pageC (m : Mm) (p : Nat) : List Value := (List.range 256).map (fun j => Value.int .u8 (m.by_ (256 * p + j) : Int)) ++ (List.range 8).map (fun i => Value.bool (decide (8 * p + i ∈ m.mks)))
theorem pageC_len (m : Mm) (p : Nat) : (pageC m p).length = 264 := by simp [pageC]
theorem pageC_by (m : Mm) (p j : Nat) (h : j < 256) : (pageC m p)[j]? = some (.int .u8 (m.by_ (256 * p + j) : Int)) := by
  unfold pageC
  rw [List.getElem?_append_left (by simpa using h)]
  simp [h]
theorem pageC_tag (m : Mm) (p i : Nat) (h : i < 8) : (pageC m p)[256 + i]? = some (.bool (decide (8 * p + i ∈ m.mks))) := by
  unfold pageC
  rw [List.getElem?_append_right (by simp)]
  simp [h]
/-- a map of pages: B's entries are D; page p lies at pb p -/
structure Says (D : DataW Unit) (pb : Nat → Nat) (l : List Nat) : Prop where
  at_ : ∀ p : Nat, p < 18446744073709551616 → D.atKey (.int .u64 (p : Int)) (.lit (.int .i64 (-1))) = .lit (.int .i64 (if p ∈ l then (pb p : Int) else -1))
  has : ∀ p : Nat, p < 18446744073709551616 → Maps.has D (.int .u64 (p : Int)) = decide (p ∈ l)
  size : Maps.size D = l.length
structure MemO (W : World) (M B : Nat) (D : DataW Unit) (pb : Nat → Nat) (F : Nat → Prop) (m : Mm) : Prop where
  ok : Okm m
  box : BoxN W M #[.map (some B), .int .i64 (m.bud : Int)]
  own : W.ownsMap (H := Unit) Tryz.prog 22 pgR B m.pgs.length D
  says : Says D pb m.pgs
  pg : ∀ p ∈ m.pgs, BoxN W (pb p) (pageC m p).toArray
  inj : ∀ p ∈ m.pgs, ∀ q ∈ m.pgs, pb p = pb q → p = q
  fm : F M
  fb : F B
  fp : ∀ p ∈ m.pgs, F (pb p)
  lt : ∀ b, F b → b < W.heap.size
def MemAt (W : World) (M : Nat) (F : Nat → Prop) (m : Mm) : Prop := ∃ B D pb, MemO W M B D pb F m
theorem MemO.at_ {W : World} {M B : Nat} {D : DataW Unit} {pb : Nat → Nat} {F : Nat → Prop} {m : Mm} (h : MemO W M B D pb F m) : MemAt W M F m := ⟨B, D, pb, h⟩
theorem boxN_ne {W : World} {a b : Nat} {x y : Array Value} (h : BoxN W a x) (k : BoxN W b y) (hs : x.size ≠ y.size) : a ≠ b := by
  rintro rfl
  obtain ⟨t, h⟩ := h
  obtain ⟨u, k⟩ := k
  rw [h] at k
  cases k
  exact hs rfl
theorem own_block {W W' : World} {k : TypeId} {R : Value → Option (DataW Unit × List MemPlace)} {b n : Nat} {D : DataW Unit} (h : W.ownsMap Tryz.prog k R b n D) (hb : W'.heap[b]? = W.heap[b]?) : W'.ownsMap Tryz.prog k R b n D := by
  obtain ⟨es, clock, h1, r⟩ := h
  exact ⟨es, clock, hb.trans h1, r⟩
theorem boxN_block {W W' : World} {b : Nat} {x : Array Value} (h : BoxN W b x) (hb : W'.heap[b]? = W.heap[b]?) : BoxN W' b x := by
  obtain ⟨t, h⟩ := h
  exact ⟨t, hb.trans h⟩
theorem MemO.mb {W : World} {M B : Nat} {D : DataW Unit} {pb : Nat → Nat} {F : Nat → Prop} {m : Mm} (h : MemO W M B D pb F m) : M ≠ B := by
  rintro rfl
  obtain ⟨t, h1⟩ := h.box
  obtain ⟨es, clock, h2, -⟩ := h.own
  rw [h1] at h2
  cases h2
theorem MemO.pm {W : World} {M B : Nat} {D : DataW Unit} {pb : Nat → Nat} {F : Nat → Prop} {m : Mm} (h : MemO W M B D pb F m) {p : Nat} (hp : p ∈ m.pgs) : pb p ≠ M :=
  boxN_ne (h.pg p hp) h.box (by rw [List.size_toArray, pageC_len]; show 264 ≠ 2; decide)
theorem MemO.pB {W : World} {M B : Nat} {D : DataW Unit} {pb : Nat → Nat} {F : Nat → Prop} {m : Mm} (h : MemO W M B D pb F m) {p : Nat} (hp : p ∈ m.pgs) : pb p ≠ B := by
  intro e
  obtain ⟨t, h1⟩ := h.pg p hp
  obtain ⟨es, clock, h2, -⟩ := h.own
  rw [e, h2] at h1
  cases h1
/-- it lies as it lay where its blocks do -/
theorem MemO.blocks {W W' : World} {M B : Nat} {D : DataW Unit} {pb : Nat → Nat} {F : Nat → Prop} {m : Mm} (h : MemO W M B D pb F m) (hb : ∀ b, F b → W'.heap[b]? = W.heap[b]?) (hs : W.heap.size ≤ W'.heap.size) : MemO W' M B D pb F m :=
  ⟨h.ok, boxN_block h.box (hb _ h.fm), own_block h.own (hb _ h.fb), h.says, fun p hp => boxN_block (h.pg p hp) (hb _ (h.fp p hp)), h.inj, h.fm, h.fb, h.fp, fun b hf => Nat.lt_of_lt_of_le (h.lt b hf) hs⟩
theorem MemO.below {W W' : World} {M B : Nat} {D : DataW Unit} {pb : Nat → Nat} {F : Nat → Prop} {m : Mm} (h : MemO W M B D pb F m) (hb : Below W.heap.size W W') : MemO W' M B D pb F m :=
  h.blocks (fun b hf => hb.block b (h.lt b hf)) hb.size
theorem MemO.kp {W W' : World} {M B : Nat} {D : DataW Unit} {pb : Nat → Nat} {F : Nat → Prop} {m : Mm} {S : Nat → Prop} {n : Nat} (h : MemO W M B D pb F m) (hk : KP n S W W') (hn : W.heap.size ≤ n) (hd : ∀ b, F b → ¬ S b) : MemO W' M B D pb F m :=
  h.blocks (fun b hf => hk.block b (Nat.lt_of_lt_of_le (h.lt b hf) hn) (hd b hf)) hk.size
theorem MemAt.below {W W' : World} {M : Nat} {F : Nat → Prop} {m : Mm} (h : MemAt W M F m) (hb : Below W.heap.size W W') : MemAt W' M F m := by
  obtain ⟨B, D, pb, h⟩ := h
  exact ⟨B, D, pb, h.below hb⟩
theorem MemAt.kp {W W' : World} {M : Nat} {F : Nat → Prop} {m : Mm} {S : Nat → Prop} {n : Nat} (h : MemAt W M F m) (hk : KP n S W W') (hn : W.heap.size ≤ n) (hd : ∀ b, F b → ¬ S b) : MemAt W' M F m := by
  obtain ⟨B, D, pb, h⟩ := h
  exact ⟨B, D, pb, h.kp hk hn hd⟩
/-- the page that has a byte -/
def pgP (pb : Nat → Nat) (m : Mm) (p : Nat) : Option Addr := if p ∈ m.pgs then some ⟨pb p, 0, none⟩ else none
theorem MemO.look {W : World} {M B : Nat} {D : DataW Unit} {pb : Nat → Nat} {F : Nat → Prop} {m : Mm} (h : MemO W M B D pb F m) (p : Nat) (hp : p < 18446744073709551616) :
    (Instr.lookup 112 (.map (some B)) (.int .u64 (p : Int)) false).run Tryz.prog W = .ok (.pointer (pgP pb m p)) W := by
  obtain ⟨v, ps, hrun, hv⟩ := h.own.lookup keyed Tryz.underlying112 (zeroPage W) (z := .pointer none) (zd := .lit (.int .i64 (-1))) (zp := []) rfl (key_u64 (p : Int) (by omega) (by omega))
  rw [hrun]
  rw [h.says.at_ p hp] at hv
  unfold pgP
  split at hv
  · rename_i hm
    rw [if_pos hm, pgR_some hv]
  · rename_i hm
    rw [if_neg hm, pgR_none hv]
theorem pageOf_any (W : World) (M B : Nat) (D : DataW Unit) (pb : Nat → Nat) (F : Nat → Prop) (m : Mm) (h : MemO W M B D pb F m) (a : Nat) (ha : a < 18446744073709551616) :
    Calls Tryz.prog 54 #[.pointer (some ⟨M, 0, none⟩), .int .u64 (a : Int)] W fun e W' => e = .returned (.pointer (pgP pb m (a / 256))) ∧ W = W' := by
  have hl := h.look (a / 256) (by omega)
  have c0 : W.cell? ⟨M, 0, none⟩ = some (.map (some B)) := h.box.cell 0
  have e1 : (((a / 256 : Nat) : Int)) = (a : Int) / 256 := by omega
  rw [e1] at hl
  clear h
  go_enter Tryz.func54, Tryz.ntmps54
  go_wp2_with fail
  go_ret
  exact ⟨rfl, rfl⟩
end Go.Proofs.YtegoddghfjfibaaGreatDoor

namespace Go.Proofs.YtegoddghfjfibaaGreatDoor
set_option linter.unusedVariables false
set_option linter.unusedSimpArgs false
open Go.Joins Go.ChangeShapes Go.WideShapes Go.ChangeAt Go.RowKit Go.Deep

theorem areP_any (f n : Int) (w : World) (hf0 : 0 ≤ f) (hf1 : f < 18446744073709551616) (hn0 : -9223372036854775808 ≤ n) (hn1 : n < 9223372036854775808) :
    Calls Tryz.prog 67 #[.int .u64 f, .int .i64 n] w fun e w' => e = .returned (.bool (!badP f n)) ∧ w = w' := by
  by_cases h1 : n < 1
  · have hb : badP f n = true := by unfold badP; rw [decide_eq_true h1]; rfl
    rw [hb]
    have h1' : ¬ 1 ≤ n := by omega
    clear hb
    go_enter Tryz.func67, Tryz.ntmps67
    go_wp2_with fail
    go_ret
    exact ⟨rfl, rfl⟩
  · have h1' : 1 ≤ n := by omega
    by_cases h2 : 65536 < n
    · have hb : badP f n = true := by unfold badP; rw [decide_eq_true h2]; simp
      rw [hb]
      have h2' : ¬ n ≤ 65536 := by omega
      clear hb
      go_enter Tryz.func67, Tryz.ntmps67
      go_wp2_with fail
      go_ret
      exact ⟨rfl, rfl⟩
    · have h2' : n ≤ 65536 := by omega
      by_cases h3 : 65536 ≤ f
      · have hb : badP f n = true := by unfold badP; rw [decide_eq_true h3]; simp
        rw [hb]
        have h3' : ¬ f < 65536 := by omega
        clear hb
        go_enter Tryz.func67, Tryz.ntmps67
        go_wp2_with fail
        go_ret
        exact ⟨rfl, rfl⟩
      · have h3' : f < 65536 := by omega
        have hb : (!badP f n) = decide (f + n ≤ 65536) := by
          unfold badP
          rw [decide_eq_false h1, decide_eq_false h2, decide_eq_false h3]
          rw [Bool.eq_iff_iff]
          simp
        rw [hb]
        have w1 : IntKind.u64.wrap n = n := by rw [IntKind.wrap_u64]; omega
        have w2 : IntKind.u64.wrap (f + n) = f + n := by rw [IntKind.wrap_u64]; omega
        clear hb
        go_enter Tryz.func67, Tryz.ntmps67
        go_wp2_with fail
        go_ret
        exact ⟨rfl, rfl⟩
/-- how many of n pages are mapped -/
def manyP (m : Mm) (f n : Nat) : Nat := (List.range n).countP fun i => decide (f + i ∈ m.pgs)
theorem manyP_succ (m : Mm) (f n : Nat) : manyP m f (n + 1) = manyP m f n + (if f + n ∈ m.pgs then 1 else 0) := by
  unfold manyP
  rw [List.range_succ, List.countP_append, List.countP_singleton]
  simp
theorem manyP_le (m : Mm) (f n : Nat) : manyP m f n ≤ n := by
  have := List.countP_le_length (p := fun i => decide (f + i ∈ m.pgs)) (l := List.range n)
  simpa [manyP] using this
theorem manyP_any (m : Mm) (f n : Nat) : decide (0 < manyP m f n) = anyIn m f n := by
  unfold manyP anyIn
  rw [Bool.eq_iff_iff, decide_eq_true_eq, List.countP_pos_iff, List.any_eq_true]
set_option maxRecDepth 20000 in
theorem mapped_any (W : World) (M B : Nat) (D : DataW Unit) (pb : Nat → Nat) (F : Nat → Prop) (m : Mm) (h : MemO W M B D pb F m) (f n : Nat) (hf : f + n ≤ 65536) :
    Calls Tryz.prog 68 #[.pointer (some ⟨M, 0, none⟩), .int .u64 (f : Int), .int .i64 (n : Int)] W fun e W' => e = .returned (.int .i64 (manyP m f n : Int)) ∧ W = W' := by
  have HM := Lib.hid h
  have w0 : IntKind.u64.wrap (n : Int) = (n : Int) := by rw [IntKind.wrap_u64]; omega
  clear h
  go_enter Tryz.func68, Tryz.ntmps68
  go_wp2_with fail
  go_loop [7, 11] (fun c i => ∃ k : Nat, k ≤ n ∧ i = .int .u64 k ∧ c = .int .i64 (manyP m f k : Int)) (fun _ i => n - (intOf i).toNat)
  case atStart => exact ⟨0, by omega, rfl, rfl⟩
  case round =>
    obtain ⟨k, hk, rfl, rfl⟩ := hrel
    by_cases hlt : k < n
    · have hm1 := manyP_le m f k
      have w1 : IntKind.u64.wrap ((f : Int) + (k : Int)) = (f : Int) + (k : Int) := by rw [IntKind.wrap_u64]; omega
      have w2 : IntKind.u64.wrap (((f : Int) + (k : Int)) * 256) = (((f + k) * 256 : Nat) : Int) := by rw [IntKind.wrap_u64]; omega
      have e3 : (f + k) * 256 / 256 = f + k := by omega
      have HP := Lib.hid (pageOf_any W M B D pb F m HM.out ((f + k) * 256) (by omega))
      rw [e3] at HP
      have HS := Lib.hid (manyP_succ m f k)
      go_wp2_with fail
      refine HP.out.mono ?_; rintro e W1 ⟨rfl, rfl⟩
      by_cases hin : f + k ∈ m.pgs
      · have hp : pgP pb m (f + k) = some ⟨pb (f + k), 0, none⟩ := if_pos hin
        rw [hp]
        have hs2 : (manyP m f (k + 1) : Int) = (manyP m f k : Int) + 1 := by rw [HS.out, if_pos hin]; omega
        have HS2 := Lib.hid hs2
        clear hp hs2 HS HP
        go_wp2_with fail
        go_round
        case rel => exact ⟨k + 1, by omega, by go_num, by rw [HS2.out]⟩
        case measure => simp [intOf]; omega
      · have hp : pgP pb m (f + k) = none := if_neg hin
        rw [hp]
        have hs2 : (manyP m f (k + 1) : Int) = (manyP m f k : Int) := by rw [HS.out, if_neg hin]; omega
        have HS2 := Lib.hid hs2
        clear hp hs2 HS HP
        go_wp2_with fail
        go_round
        case rel => exact ⟨k + 1, by omega, by go_num, by rw [HS2.out]⟩
        case measure => simp [intOf]; omega
    · obtain rfl : k = n := by omega
      go_wp2_with fail
      go_ret
      exact ⟨rfl, rfl⟩
/-- where n bytes at a lie -/
def placeV (pb : Nat → Nat) (m : Mm) (a n : Nat) : Value := if a % n ≠ 0 then .tuple #[.pointer none, .int .i64 0, .int .i64 31] else if a / 256 ∈ m.pgs then .tuple #[.pointer (some ⟨pb (a / 256), 0, none⟩), .int .i64 ((a % 256 : Nat) : Int), .int .i64 0] else .tuple #[.pointer none, .int .i64 0, .int .i64 30]
set_option maxRecDepth 20000 in
theorem place_any (W : World) (M B : Nat) (D : DataW Unit) (pb : Nat → Nat) (F : Nat → Prop) (m : Mm) (h : MemO W M B D pb F m) (a n : Nat) (ha : a < 18446744073709551616) (hn : 0 < n) (hn2 : n ≤ 32) :
    Calls Tryz.prog 83 #[.pointer (some ⟨M, 0, none⟩), .int .u64 (a : Int), .int .i64 (n : Int)] W fun e W' => e = .returned (placeV pb m a n) ∧ W = W' := by
  have w0 : IntKind.u64.wrap (n : Int) = (n : Int) := by rw [IntKind.wrap_u64]; omega
  have n0 : ¬ (n : Int) = 0 := by omega
  have HP := Lib.hid (pageOf_any W M B D pb F m h a ha)
  clear h
  by_cases hal : a % n = 0
  · have ha1 : (a : Int) % (n : Int) = 0 := by exact_mod_cast hal
    by_cases hin : a / 256 ∈ m.pgs
    · have hp : pgP pb m (a / 256) = some ⟨pb (a / 256), 0, none⟩ := if_pos hin
      have hv : placeV pb m a n = .tuple #[.pointer (some ⟨pb (a / 256), 0, none⟩), .int .i64 ((a : Int) % 256), .int .i64 0] := by unfold placeV; rw [if_neg (by omega), if_pos hin]; rfl
      have w3 : IntKind.i64.wrap ((a : Int) % 256) = (a : Int) % 256 := IntWalk.i64_in _ (by omega)
      rw [hp] at HP
      rw [hv]
      clear hp hv hin hal
      go_enter Tryz.func83, Tryz.ntmps83
      go_wp2_with fail
      refine HP.out.mono ?_; rintro e W1 ⟨rfl, rfl⟩
      go_wp2_with fail
      go_ret3
      exact ⟨rfl, rfl⟩
    · have hp : pgP pb m (a / 256) = none := if_neg hin
      have hv : placeV pb m a n = .tuple #[.pointer none, .int .i64 0, .int .i64 30] := by unfold placeV; rw [if_neg (by omega), if_neg hin]
      rw [hp] at HP
      rw [hv]
      clear hp hv hin hal
      go_enter Tryz.func83, Tryz.ntmps83
      go_wp2_with fail
      refine HP.out.mono ?_; rintro e W1 ⟨rfl, rfl⟩
      go_wp2_with fail
      go_ret3
      exact ⟨rfl, rfl⟩
  · have ha1 : ¬ (a : Int) % (n : Int) = 0 := by exact_mod_cast hal
    have hv : placeV pb m a n = .tuple #[.pointer none, .int .i64 0, .int .i64 31] := by unfold placeV; rw [if_pos hal]
    rw [hv]
    clear hv hal HP
    go_enter Tryz.func83, Tryz.ntmps83
    go_wp2_with fail
    go_ret3
    exact ⟨rfl, rfl⟩
/-- where a number of n bytes lies -/
def numV (pb : Nat → Nat) (m : Mm) (a : Nat) (n : Int) : Value := if n = 1 ∨ n = 2 ∨ n = 4 ∨ n = 8 then placeV pb m a n.toNat else .tuple #[.pointer none, .int .i64 0, .int .i64 1]
theorem placeV_tuple (pb : Nat → Nat) (m : Mm) (a n : Nat) : ∃ p i e, placeV pb m a n = .tuple #[.pointer p, .int .i64 i, .int .i64 e] := by
  unfold placeV
  split
  · exact ⟨_, _, _, rfl⟩
  · split
    · exact ⟨_, _, _, rfl⟩
    · exact ⟨_, _, _, rfl⟩
set_option maxRecDepth 20000 in
theorem number_any (W : World) (M B : Nat) (D : DataW Unit) (pb : Nat → Nat) (F : Nat → Prop) (m : Mm) (h : MemO W M B D pb F m) (a : Nat) (n : Int) (ha : a < 18446744073709551616) :
    Calls Tryz.prog 77 #[.pointer (some ⟨M, 0, none⟩), .int .u64 (a : Int), .int .i64 n] W fun e W' => e = .returned (numV pb m a n) ∧ W = W' := by
  by_cases hn : n = 1 ∨ n = 2 ∨ n = 4 ∨ n = 8
  · have hv : numV pb m a n = placeV pb m a n.toNat := by unfold numV; rw [if_pos hn]
    have HP := Lib.hid (place_any W M B D pb F m h a n.toNat ha (by omega) (by omega))
    rw [hv]
    obtain ⟨p, i, e, he⟩ := placeV_tuple pb m a n.toNat
    rw [he] at HP ⊢
    have e2 : ((n.toNat : Nat) : Int) = n := by omega
    rw [e2] at HP
    clear hv h e2 he
    rcases hn with rfl | rfl | rfl | rfl
    all_goals
      go_enter Tryz.func77, Tryz.ntmps77
      go_wp2_with fail
      refine HP.out.mono ?_; rintro e W1 ⟨rfl, rfl⟩
      go_wp2_with fail
      go_ret3
      exact ⟨rfl, rfl⟩
  · have hv : numV pb m a n = .tuple #[.pointer none, .int .i64 0, .int .i64 1] := by unfold numV; rw [if_neg hn]
    rw [hv]
    have n1 : ¬ n = 1 := fun e => hn (Or.inl e)
    have n2 : ¬ n = 2 := fun e => hn (Or.inr (Or.inl e))
    have n3 : ¬ n = 4 := fun e => hn (Or.inr (Or.inr (Or.inl e)))
    have n4 : ¬ n = 8 := fun e => hn (Or.inr (Or.inr (Or.inr e)))
    clear hv hn h
    go_enter Tryz.func77, Tryz.ntmps77
    go_wp2_with fail
    go_ret3
    exact ⟨rfl, rfl⟩
end Go.Proofs.YtegoddghfjfibaaGreatDoor

namespace Go.Proofs.YtegoddghfjfibaaGreatDoor
set_option linter.unusedVariables false
set_option linter.unusedSimpArgs false
open Go.Joins Go.ChangeShapes Go.WideShapes Go.ChangeAt Go.RowKit Go.Deep

theorem allB_iff (m : Mm) (a n : Nat) (hn : 0 < n) : allB m a n = true ↔ ∀ p, a / 256 ≤ p → p ≤ (a + (n - 1)) / 256 → p ∈ m.pgs := by
  unfold allB
  rw [List.all_eq_true]
  constructor
  · intro h p h1 h2
    by_cases hc : a ≤ 256 * p
    · have := h (256 * p - a) (List.mem_range.2 (by omega))
      rw [show (a + (256 * p - a)) / 256 = p by omega] at this
      exact of_decide_eq_true this
    · have := h 0 (List.mem_range.2 hn)
      rw [show (a + 0) / 256 = p by omega] at this
      exact of_decide_eq_true this
  · intro h i hi
    have := List.mem_range.1 hi
    exact decide_eq_true (h _ (by omega) (by omega))
set_option maxRecDepth 20000 in
theorem has_any (W : World) (M B : Nat) (D : DataW Unit) (pb : Nat → Nat) (F : Nat → Prop) (m : Mm) (h : MemO W M B D pb F m) (a n : Nat) (ha : a < 18446744073709551616) (hn : n < 9223372036854775808) :
    Calls Tryz.prog 53 #[.pointer (some ⟨M, 0, none⟩), .int .u64 (a : Int), .int .i64 (n : Int)] W fun e W' => e = .returned (.bool (allB m a n)) ∧ W = W' := by
  obtain ⟨r, hr⟩ : ∃ r, allB m a n = r := ⟨_, rfl⟩
  rw [hr]
  have HR := Lib.hid hr
  have HM := Lib.hid h
  clear hr h
  rcases Nat.eq_zero_or_pos n with h0 | h0
  · subst h0
    have hrt : true = r := by rw [← HR.out]; rfl
    subst hrt
    go_enter Tryz.func53, Tryz.ntmps53
    go_wp2_with fail
    go_ret
    exact ⟨rfl, rfl⟩
  · obtain ⟨k, rfl⟩ : ∃ k, n = k + 1 := ⟨n - 1, by omega⟩
    have HI := Lib.hid (allB_iff m a (k + 1) h0)
    have n0 : ¬ ((k + 1 : Nat) : Int) = 0 := by omega
    have w1 : IntKind.i64.wrap (((k + 1 : Nat) : Int) - 1) = (k : Int) := by rw [IntKind.wrap_i64]; omega
    have w2 : IntKind.u64.wrap (k : Int) = (k : Int) := by rw [IntKind.wrap_u64]; omega
    have w3 : IntKind.u64.wrap (18446744073709551615 - (a : Int)) = 18446744073709551615 - (a : Int) := by rw [IntKind.wrap_u64]; omega
    generalize hN : ((k + 1 : Nat) : Int) = N at *
    clear hN h0
    by_cases hov : 18446744073709551615 - (a : Int) < (k : Int)
    · have hrf : false = r := by
        rw [← HR.out]
        symm
        rw [Bool.eq_false_iff]
        intro hh
        have := HM.out.ok.pl _ (HI.out.1 hh ((a + (k + 1 - 1)) / 256) (by omega) (Nat.le_refl _))
        omega
      subst hrf
      go_enter Tryz.func53, Tryz.ntmps53
      go_wp2_with fail
      go_ret
      exact ⟨rfl, rfl⟩
    · have w4 : IntKind.u64.wrap ((a : Int) + (k : Int)) = (a : Int) + (k : Int) := by rw [IntKind.wrap_u64]; omega
      obtain ⟨z, hz⟩ : ∃ z, (a + k) / 256 = z := ⟨_, rfl⟩
      have hz2 : ((a : Int) + (k : Int)) / 256 = (z : Int) := by omega
      have HZ := Lib.hid hz
      obtain ⟨p0, hp0⟩ : ∃ z, a / 256 = z := ⟨_, rfl⟩
      have hp2 : (a : Int) / 256 = (p0 : Int) := by omega
      have HP0 := Lib.hid hp0
      have hz3 : p0 ≤ z := by omega
      have hz4 : z < 72057594037927936 := by omega
      clear hz hp0
      go_enter Tryz.func53, Tryz.ntmps53
      go_wp2_with fail
      go_loop [7] (fun i => ∃ p : Nat, i = .int .u64 p ∧ p0 ≤ p ∧ p ≤ z + 1 ∧ Hid (∀ q, p0 ≤ q → q < p → q ∈ m.pgs)) (fun i => z + 1 - (intOf i).toNat)
      case atStart => exact ⟨p0, rfl, by omega, by omega, Lib.hid (fun q h1 h2 => by omega)⟩
      case round =>
        obtain ⟨p, rfl, hp1, hp3, HQ⟩ := hrel
        by_cases hlt : p ≤ z
        · have hlt' : (p : Int) ≤ (z : Int) := by omega
          have w5 : IntKind.u64.wrap ((p : Int) * 256) = ((p * 256 : Nat) : Int) := by rw [IntKind.wrap_u64]; omega
          have HP := Lib.hid (pageOf_any W M B D pb F m HM.out (p * 256) (by omega))
          rw [show p * 256 / 256 = p by omega] at HP
          have w6 : IntKind.u64.wrap ((p : Int) + 1) = (p : Int) + 1 := by rw [IntKind.wrap_u64]; omega
          by_cases hin : p ∈ m.pgs
          · have hpp : pgP pb m p = some ⟨pb p, 0, none⟩ := if_pos hin
            rw [hpp] at HP
            have HQ2 : Hid (∀ q, p0 ≤ q → q < p + 1 → q ∈ m.pgs) := Lib.hid (fun q h1 h2 => by
              by_cases e : q = p
              · rw [e]; exact hin
              · exact HQ.out q h1 (by omega))
            clear hpp hin
            go_wp2_with fail
            refine HP.out.mono ?_; rintro e W1 ⟨rfl, rfl⟩
            go_wp2_with fail
            go_round
            case rel => exact ⟨p + 1, by go_num, by omega, by omega, HQ2⟩
            case measure => simp [intOf]; omega
          · have hpp : pgP pb m p = none := if_neg hin
            rw [hpp] at HP
            have hrf : false = r := by
              rw [← HR.out]
              symm
              rw [Bool.eq_false_iff]
              intro hh
              exact hin (HI.out.1 hh p (by rw [HP0.out]; exact hp1) (by rw [Nat.add_sub_cancel, HZ.out]; exact hlt))
            subst hrf
            clear hpp hin
            go_wp2_with fail
            refine HP.out.mono ?_; rintro e W1 ⟨rfl, rfl⟩
            go_wp2_with fail
            go_ret
            exact ⟨rfl, rfl⟩
        · have hlt' : ¬ (p : Int) ≤ (z : Int) := by omega
          have hrt : true = r := by
            rw [← HR.out]
            symm
            exact HI.out.2 (fun q h1 h2 => HQ.out q (by rw [← HP0.out]; exact h1) (by rw [Nat.add_sub_cancel, HZ.out] at h2; omega))
          subst hrt
          go_wp2_with fail
          go_ret
          exact ⟨rfl, rfl⟩
theorem MemO.rdB {W : World} {M B : Nat} {D : DataW Unit} {pb : Nat → Nat} {F : Nat → Prop} {m : Mm} (h : MemO W M B D pb F m) (a n : Nat) (hp : a / 256 ∈ m.pgs) (hf : a % 256 + n ≤ 256) : Rd W (some ⟨pb (a / 256), a % 256, none⟩) n (u8s (manyB m a n)) := by
  refine ⟨by rw [u8s_length, manyB_len], fun h0 => ⟨_, _, rfl, (h.pg _ hp).lt, fun k hk => ?_⟩⟩
  rw [(h.pg _ hp).cell, List.getElem?_toArray, pageC_by _ _ _ (by omega), u8s_get _ _ (by rw [manyB_len]; exact hk), manyB_get, show 256 * (a / 256) + (a % 256 + k) = a + k by omega]
theorem num_place (pb : Nat → Nat) (m : Mm) (a : Nat) (n : Int) : (numE m a n = 0 ∧ (n = 1 ∨ n = 2 ∨ n = 4 ∨ n = 8) ∧ a % n.toNat = 0 ∧ a / 256 ∈ m.pgs ∧ numV pb m a n = .tuple #[.pointer (some ⟨pb (a / 256), 0, none⟩), .int .i64 ((a % 256 : Nat) : Int), .int .i64 0]) ∨
    (numE m a n ≠ 0 ∧ numV pb m a n = .tuple #[.pointer none, .int .i64 0, .int .i64 (numE m a n)]) := by
  have hd : ((a : Int) / 256).toNat = a / 256 := by omega
  by_cases hn : n = 1 ∨ n = 2 ∨ n = 4 ∨ n = 8
  · have h1 : ¬ (n ≠ 1 ∧ n ≠ 2 ∧ n ≠ 4 ∧ n ≠ 8) := by omega
    have hm : ((a : Int) % n ≠ 0) ↔ a % n.toNat ≠ 0 := by rcases hn with rfl | rfl | rfl | rfl <;> simp <;> omega
    unfold numE numV placeV isIn
    rw [if_neg h1, if_pos hn, hd]
    by_cases hal : a % n.toNat = 0
    · rw [if_neg (show ¬ ((a : Int) % n ≠ 0) from fun e => (hm.1 e) hal), if_neg (show ¬ (a % n.toNat ≠ 0) from fun e => e hal)]
      by_cases hin : a / 256 ∈ m.pgs
      · left
        rw [if_pos hin, if_pos (decide_eq_true hin)]
        exact ⟨rfl, hn, hal, hin, rfl⟩
      · right
        rw [if_neg hin, if_neg (by rw [decide_eq_false hin]; decide)]
        exact ⟨by decide, rfl⟩
    · right
      rw [if_pos (hm.2 hal), if_pos hal]
      exact ⟨by decide, rfl⟩
  · right
    have h1 : n ≠ 1 ∧ n ≠ 2 ∧ n ≠ 4 ∧ n ≠ 8 := by omega
    unfold numE numV
    rw [if_pos h1, if_neg hn]
    exact ⟨by decide, rfl⟩
theorem run_slA (w : World) (b i n : Nat) (hi : i < 256) (hn : i + n ≤ 256) :
    (Instr.sliceAt 99 (.pointer (some ⟨b, 0, none⟩)) (some (.int .i64 (i : Int))) (some (.int .i64 ((i : Int) + (n : Int)))) none).run Tryz.prog w = .ok (.slice (some ⟨b, i, none⟩) n (256 - i)) w := by
  have hu := Tryz.underlying99
  have ho : (sizeOf 5).run Tryz.prog w = .ok 1 w := by kernel_rfl
  have hl : Tryz.prog.arrayLen 99 = 256 := by kernel_rfl
  have he : Tryz.prog.elem 99 = 5 := by kernel_rfl
  rw [run_sliceAt_array_lh w 99 ⟨b, 0, none⟩ (by rw [hl, he]; exact hu) .i64 .i64 (i : Int) ((i : Int) + (n : Int)) (by omega) (by omega) (by rw [hl]; omega), he, ho]
  simp only [Result.andThen, slicedAt, hl]
  rw [if_neg (by omega), show ((i : Int) + (n : Int)).toNat = i + n by omega, Int.toNat_natCast]
  simp [Addr.add]
  exact fun e => e.symm
set_option maxRecDepth 20000 in
theorem load_any (W : World) (M B : Nat) (D : DataW Unit) (pb : Nat → Nat) (F : Nat → Prop) (m : Mm) (h : MemO W M B D pb F m) (a : Nat) (n : Int) (ha : a < 18446744073709551616) :
    Calls Tryz.prog 86 #[.pointer (some ⟨M, 0, none⟩), .int .u64 (a : Int), .int .i64 n] W fun e W' => e = .returned (.tuple #[.int .u64 (loadF m a n).1, .int .i64 (loadF m a n).2]) ∧ W = W' := by
  have HN := Lib.hid (number_any W M B D pb F m h a n ha)
  rcases num_place pb m a n with ⟨he, hn, hal, hin, hv⟩ | ⟨he, hv⟩
  · have hl : loadF m a n = (((ofB (manyB m a n.toNat) : Nat) : Int), 0) := by unfold loadF; rw [if_pos he, Int.toNat_natCast]
    rw [hl]
    rw [hv] at HN
    obtain ⟨k, rfl⟩ : ∃ k : Nat, n = k := ⟨n.toNat, by omega⟩
    rw [Int.toNat_natCast] at hal ⊢
    have hf : a % 256 + k ≤ 256 := by
      have h1 : k = 1 ∨ k = 2 ∨ k = 4 ∨ k = 8 := by omega
      rcases h1 with rfl | rfl | rfl | rfl <;> omega
    have HO := Lib.hid (fun c => of_any (some ⟨pb (a / 256), a % 256, none⟩) k c (manyB m a k) W (h.rdB a k hin hf) (manyB_lt h.ok a k) (by omega))
    obtain ⟨i, hi⟩ : ∃ i, a % 256 = i := ⟨_, rfl⟩
    rw [hi] at HN HO hf
    have w1 : IntKind.i64.wrap ((i : Int) + (k : Int)) = (i : Int) + (k : Int) := by rw [IntKind.wrap_i64]; omega
    have hsl := run_slA W (pb (a / 256)) i k (by omega) hf
    clear hl hv he h hi
    go_enter Tryz.func86, Tryz.ntmps86
    go_wp2_with fail
    refine HN.out.mono ?_; rintro e W1 ⟨rfl, rfl⟩
    go_wp2_with fail
    refine (HO.out _).mono ?_; rintro e W1 ⟨rfl, rfl⟩
    go_wp2_with fail
    go_ret2
    exact ⟨rfl, rfl⟩
  · have hl : loadF m a n = (0, numE m a n) := by unfold loadF; rw [if_neg he]
    rw [hl]
    rw [hv] at HN
    obtain ⟨e1, he1⟩ : ∃ e, numE m a n = e := ⟨_, rfl⟩
    rw [he1] at HN he ⊢
    clear hl hv h he1
    go_enter Tryz.func86, Tryz.ntmps86
    go_wp2_with fail
    refine HN.out.mono ?_; rintro e W1 ⟨rfl, rfl⟩
    go_wp2_with fail
    go_ret2
    exact ⟨rfl, rfl⟩
end Go.Proofs.YtegoddghfjfibaaGreatDoor

namespace Go.Proofs.YtegoddghfjfibaaGreatDoor
set_option linter.unusedVariables false
set_option linter.unusedSimpArgs false
open Go.Joins Go.ChangeShapes Go.WideShapes Go.ChangeAt Go.RowKit Go.Deep

/-- a page's cells, of its bytes and tags -/
def pgC (by_ : Nat → Nat) (tg : Nat → Bool) : List Value := (List.range 256).map (fun j => Value.int .u8 (by_ j : Int)) ++ (List.range 8).map (fun i => Value.bool (tg i))
theorem pageC_eq (m : Mm) (p : Nat) : pageC m p = pgC (fun j => m.by_ (256 * p + j)) (fun i => decide (8 * p + i ∈ m.mks)) := rfl
theorem pgC_len (by_ : Nat → Nat) (tg : Nat → Bool) : (pgC by_ tg).length = 264 := by simp [pgC]
theorem pgC_by (by_ : Nat → Nat) (tg : Nat → Bool) (j : Nat) (h : j < 256) : (pgC by_ tg)[j]? = some (.int .u8 (by_ j : Int)) := by
  unfold pgC
  rw [List.getElem?_append_left (by simpa using h)]
  simp [h]
theorem pgC_tag (by_ : Nat → Nat) (tg : Nat → Bool) (i : Nat) (h : i < 8) : (pgC by_ tg)[256 + i]? = some (.bool (tg i)) := by
  unfold pgC
  rw [List.getElem?_append_right (by simp)]
  simp [h]
theorem pgC_at (by_ : Nat → Nat) (tg : Nat → Bool) (k : Nat) : (pgC by_ tg)[k]? = if k < 256 then some (.int .u8 (by_ k : Int)) else if k < 264 then some (.bool (tg (k - 256))) else none := by
  split
  · rename_i h; exact pgC_by _ _ _ h
  · rename_i h
    split
    · rename_i h2
      obtain ⟨i, rfl⟩ : ∃ i, k = 256 + i := ⟨k - 256, by omega⟩
      rw [pgC_tag _ _ _ (by omega), show 256 + i - 256 = i by omega]
    · rw [List.getElem?_eq_none_iff]; rw [pgC_len]; omega
theorem pgC_ext {b b' : Nat → Nat} {t t' : Nat → Bool} (hb : ∀ j, j < 256 → b j = b' j) (ht : ∀ i, i < 8 → t i = t' i) : pgC b t = pgC b' t' := by
  apply List.ext_getElem?
  intro k
  rw [pgC_at, pgC_at]
  split
  · rename_i h; rw [hb k h]
  · split
    · rename_i h h2; rw [ht _ (by omega)]
    · rfl
def updT (t : Nat → Bool) (g : Nat) (v : Bool) : Nat → Bool := fun x => if x = g then v else t x
theorem pgC_setTag (b : Nat → Nat) (t : Nat → Bool) (g : Nat) (v : Bool) (hg : g < 8) : (pgC b t).toArray.setIfInBounds (256 + g) (.bool v) = (pgC b (updT t g v)).toArray := by
  rw [List.setIfInBounds_toArray]
  congr 1
  apply List.ext_getElem?
  intro k
  rw [List.getElem?_set, pgC_at, pgC_at, pgC_len]
  unfold updT
  by_cases hk : 256 + g = k
  · subst hk
    rw [if_pos rfl, if_pos (by omega), if_neg (by omega), if_pos (by omega), if_pos (by omega)]
  · rw [if_neg hk]
    split
    · rfl
    · split
      · rw [if_neg (by omega)]
      · rfl
def updB (b : Nat → Nat) (i : Nat) (l : List Nat) : Nat → Nat := fun j => if h : i ≤ j ∧ j < i + l.length then l[j - i]'(by omega) else b j
theorem pgC_setBy (b : Nat → Nat) (t : Nat → Bool) (j x : Nat) (hj : j < 256) : (pgC b t).toArray.setIfInBounds j (.int .u8 (x : Int)) = (pgC (updB b j [x]) t).toArray := by
  rw [List.setIfInBounds_toArray]
  congr 1
  apply List.ext_getElem?
  intro k
  rw [List.getElem?_set, pgC_at, pgC_at, pgC_len]
  unfold updB
  by_cases hk : j = k
  · subst hk
    rw [if_pos rfl, if_pos (by omega), if_pos hj]
    simp
  · rw [if_neg hk]
    split
    · rw [dif_neg (by simp; omega)]
    · rfl
theorem splice_at {α : Type} (L : List α) (off : Nat) (cs : List α) (h : off + cs.length ≤ L.length) (k : Nat) : (splice L off cs)[k]? = if off ≤ k ∧ k < off + cs.length then cs[k - off]? else L[k]? := by
  unfold splice
  have ht : (L.take off).length = off := by rw [List.length_take]; omega
  by_cases h1 : k < off
  · rw [List.getElem?_append_left (by omega), List.getElem?_take, if_pos h1, if_neg (by omega)]
  · rw [List.getElem?_append_right (by omega), ht]
    by_cases h2 : k < off + cs.length
    · rw [List.getElem?_append_left (by omega), if_pos (by omega)]
    · rw [List.getElem?_append_right (by omega), if_neg (by omega), List.getElem?_drop, show off + cs.length + (k - off - cs.length) = k by omega]
theorem pgC_splice (b : Nat → Nat) (t : Nat → Bool) (i : Nat) (l : List Nat) (h : i + l.length ≤ 256) : splice (pgC b t) i (u8s l) = pgC (updB b i l) t := by
  apply List.ext_getElem?
  intro k
  have hl : (u8s l).length = l.length := u8s_length l
  rw [splice_at _ _ _ (by rw [pgC_len, hl]; omega), hl, pgC_at, pgC_at]
  unfold updB
  by_cases hk : i ≤ k ∧ k < i + l.length
  · rw [if_pos hk, if_pos (by omega), dif_pos hk, u8s_get _ _ (by omega)]
  · rw [if_neg hk]
    split
    · first | rfl | (rw [dif_neg hk])
    · rfl
theorem run_copyB (w : World) (ty : TypeId) (g off dLen dCap : Nat) (ad : Addr) (sLen sCap : Nat) (cur cs : List Value) (hg : BoxN w g cur.toArray) (hn : cs.length = Nat.min sLen dLen)
    (hsrc : ∀ j v, cs[j]? = some v → w.cell? (ad.add j) = some v) (hfit : off + cs.length ≤ cur.length) (h1 : ∀ v ∈ cs, v.oneCell' = true) :
    ∃ w', (Builtin.copy_ #[42, 42] ty #[.slice (some ⟨g, off, none⟩) dLen dCap, .slice (some ad) sLen sCap]).run Tryz.prog w = .ok (goInt cs.length) w' ∧ BoxN w' g (splice cur off cs).toArray ∧ KP w.heap.size (· = g) w w' := by
  obtain ⟨t, hg⟩ := hg
  refine ⟨_, run_copy_row (P := Tryz.prog) w 42 42 ty 5 g off dLen dCap ad sLen sCap cur.toArray t cs Tryz.underlying42 (by kernel_rfl) hg hn hsrc (by simpa using hfit) h1, ⟨t, ?_⟩, ⟨rfl, rfl, rfl, by simp [World.setRow], fun k hk hne => setRow_other w g k _ (fun e => hne (by omega))⟩⟩
  simpa [splice] using setRow_heap w g _ _ t _ hg
theorem u8s_one (l : List Nat) : ∀ u ∈ u8s l, u.oneCell' = true := fun u hu => by
  obtain ⟨b, -, rfl⟩ := List.mem_map.1 hu
  rfl
theorem rd_src {w : World} {b off n : Nat} {l : List Value} (h : Rd w (some ⟨b, off, none⟩) n l) : ∀ j v, l[j]? = some v → w.cell? ((⟨b, off, none⟩ : Addr).add j) = some v := fun j v hj => by
  have hlt : j < n := by have := (List.getElem?_eq_some_iff.1 hj).1; rw [h.1] at this; exact this
  obtain ⟨b', off', e, -, hc⟩ := h.at_ hlt
  cases e
  rw [add_plain, hc, hj]
/-- the tags that are left where bytes were written -/
def tgW (t : Nat → Bool) (i n : Nat) : Nat → Bool := fun g => t g && !inGr i n g
def tgK (t : Nat → Bool) (i g : Nat) : Nat → Bool := fun x => t x && !(decide (i / 32 ≤ x) && decide (x < g))
theorem run_slL (w : World) (b i : Nat) (hi : i < 256) :
    (Instr.sliceAt 99 (.pointer (some ⟨b, 0, none⟩)) (some (.int .i64 (i : Int))) none none).run Tryz.prog w = .ok (.slice (some ⟨b, i, none⟩) (256 - i) (256 - i)) w := by
  have hu := Tryz.underlying99
  have ho : (sizeOf 5).run Tryz.prog w = .ok 1 w := by kernel_rfl
  have hl : Tryz.prog.arrayLen 99 = 256 := by kernel_rfl
  have he : Tryz.prog.elem 99 = 5 := by kernel_rfl
  rw [run_sliceAt_array_l w 99 ⟨b, 0, none⟩ (by rw [hl, he]; exact hu) .i64 (i : Int) (by omega) (by rw [hl]; omega), he, ho]
  simp only [Result.andThen, slicedAt, hl]
  rw [if_neg (by omega), Int.toNat_natCast]
  simp [Addr.add]
  exact fun e => e.symm
set_option maxRecDepth 20000 in
theorem write_any (W : World) (q i n c : Nat) (a : Option Addr) (b : Nat → Nat) (t : Nat → Bool) (l : List Nat) (hq : BoxN W q (pgC b t).toArray) (hln : l.length = n) (hn : 0 < n) (hi : i + n ≤ 256) (hs : Rd W a n (u8s l)) (hne : ∀ g off, a = some ⟨g, off, none⟩ → g ≠ q) :
    Calls Tryz.prog 78 #[.pointer (some ⟨q, 0, none⟩), .int .i64 (i : Int), .slice a n c] W fun e W' => e = .returned (.tuple #[]) ∧ BoxN W' q (pgC (updB b i l) (tgW t i n)).toArray ∧ KP W.heap.size (· = q) W W' := by
  obtain ⟨ab, ao, rfl, habl, -⟩ := hs.2 hn
  have hab := hne ab ao rfl
  have HS := Lib.hid hs
  have HQ0 : Hid (BoxN W q (pgC b (tgK t i (i / 32))).toArray) := Lib.hid (by
    rw [show pgC b (tgK t i (i / 32)) = pgC b t from pgC_ext (fun _ _ => rfl) (fun x _ => by
      unfold tgK
      have : (decide (i / 32 ≤ x) && decide (x < i / 32)) = false := by rw [Bool.and_eq_false_iff, decide_eq_false_iff_not, decide_eq_false_iff_not]; omega
      rw [this]; simp)]
    exact hq)
  have HLN := Lib.hid hln
  have hqs := hq.lt
  have w1 : IntKind.i64.wrap ((i : Int) + (n : Int)) = (i : Int) + (n : Int) := by rw [IntKind.wrap_i64]; omega
  have hsl := fun w => run_slL w q i (by omega)
  clear hs hq hln hne
  go_enter Tryz.func78, Tryz.ntmps78
  have e0 : (i : Int).tdiv 32 = ((i / 32 : Nat) : Int) := by rw [Int.tdiv_eq_ediv_of_nonneg (by omega)]; omega
  have e0' : (i : Int) / 32 = ((i / 32 : Nat) : Int) := by omega
  obtain ⟨g0, hg0⟩ : ∃ z, i / 32 = z := ⟨_, rfl⟩
  rw [hg0] at e0 e0' HQ0
  have HG0 := Lib.hid hg0
  have hg8 : g0 < 8 := by omega
  clear hg0
  go_wp2_with fail
  go_loopw [6] (fun gv wr => ∃ g : Nat, gv = .int .i64 g ∧ g0 ≤ g ∧ g ≤ 8 ∧ Hid (∀ x, g0 ≤ x → x < g → 32 * x < i + n) ∧ Hid (BoxN wr q (pgC b (tgK t i g)).toArray) ∧ Hid (KP W.heap.size (· = q) W wr)) (fun gv _ => 8 - (intOf gv).toNat)
  case atStart => exact ⟨g0, rfl, Nat.le_refl _, by omega, Lib.hid (fun x h1 h2 => by omega), HQ0, Lib.hid (KP.refl _ _ _)⟩
  case round =>
    clear HQ0
    obtain ⟨g, rfl, hg1, hg2, HX, HQ, HK⟩ := hrel
    have w2 : IntKind.i64.wrap ((g : Int) * 32) = (g : Int) * 32 := by rw [IntKind.wrap_i64]; omega
    by_cases hlt : (g : Int) * 32 < (i : Int) + (n : Int)
    · have hg3 : g < 8 := by omega
      have i8 : (g : Int) < 8 := by omega
      have i0 : (0 : Int) ≤ (g : Int) := by omega
      have cg : wr.cell? ⟨q, 256 + g, none⟩ = some (.bool (tgK t i g g)) := by rw [HQ.out.cell, List.getElem?_toArray, pgC_tag _ _ _ hg3]
      have zg : wr.frozen? ⟨q, 256 + g, none⟩ = false := HQ.out.frozen _
      have HQ2 : Hid (BoxN (wr.setCell ⟨q, 256 + g, none⟩ (.bool false)) q (pgC b (tgK t i (g + 1))).toArray) := Lib.hid (by
        have h1 := HQ.out.set (256 + g) (.bool false)
        rw [pgC_setTag _ _ _ _ hg3] at h1
        rw [show pgC b (tgK t i (g + 1)) = pgC b (updT (tgK t i g) g false) from pgC_ext (fun _ _ => rfl) (fun x _ => by
          unfold tgK updT
          have hg0 := HG0.out
          by_cases e : x = g
          · rw [if_pos e, decide_eq_true (by omega), decide_eq_true (by omega)]; simp
          · rw [if_neg e, show decide (x < g + 1) = decide (x < g) from decide_eq_decide.2 (by omega)])]
        exact h1)
      have HK2 := Lib.hid (HK.out.set ⟨q, 256 + g, none⟩ (Or.inr rfl) (.bool false))
      have HX2 : Hid (∀ x, g0 ≤ x → x < g + 1 → 32 * x < i + n) := Lib.hid (fun x h1 h2 => by
        by_cases e : x = g
        · subst e; omega
        · exact HX.out x h1 (by omega))
      go_wp2_with fail
      go_roundw
      case rel => exact ⟨g + 1, by go_num, by omega, by omega, HX2, HQ2, HK2⟩
      case measure => simp [intOf]; omega
    · have HQ2 : Hid (BoxN wr q (pgC b (tgW t i n)).toArray) := Lib.hid (by
        rw [show pgC b (tgW t i n) = pgC b (tgK t i g) from pgC_ext (fun _ _ => rfl) (fun x _ => by
          unfold tgW tgK inGr
          congr 2
          rw [Bool.eq_iff_iff]
          simp only [Bool.and_eq_true, decide_eq_true_eq]
          have hg0 := HG0.out
          constructor
          · rintro ⟨h1, h2⟩
            exact ⟨by omega, by omega⟩
          · rintro ⟨h1, h2⟩
            exact ⟨by omega, HX.out x (by omega) h2⟩)]
        exact HQ.out)
      have hsz := HK.out.size
      have HSR : Hid (Rd wr (some ⟨ab, ao, none⟩) n (u8s l)) := Lib.hid (HK.out.rd HS.out (fun b' off h0 e => by cases e; exact ⟨habl, hab⟩))
      have hmin : (u8s l).length = Nat.min n (256 - i) := by rw [u8s_length, HLN.out]; exact (Nat.min_eq_left (by omega)).symm
      have hfit : i + (u8s l).length ≤ (pgC b (tgW t i n)).length := by rw [u8s_length, HLN.out, pgC_len]; omega
      obtain ⟨w2, hrun, hb2, hk2⟩ := run_copyB wr 3 q i (256 - i) (256 - i) ⟨ab, ao, none⟩ n c (pgC b (tgW t i n)) (u8s l) HQ2.out hmin (rd_src HSR.out) hfit (u8s_one l)
      have HB2 := Lib.hid hb2
      have HK3 := Lib.hid (HK.out.trans (hk2.mono hsz (fun _ _ q => q)))
      clear hb2 hk2
      go_wp2_with fail
      go_end0
      refine ⟨rfl, ?_, HK3.out⟩
      rw [← pgC_splice b _ i l (by rw [HLN.out]; exact hi)]
      exact HB2.out
end Go.Proofs.YtegoddghfjfibaaGreatDoor

namespace Go.Proofs.YtegoddghfjfibaaGreatDoor
set_option linter.unusedVariables false
set_option linter.unusedSimpArgs false
open Go.Joins Go.ChangeShapes Go.WideShapes Go.ChangeAt Go.RowKit Go.Deep

/-- one page is turned -/
theorem MemO.turn {W W' : World} {M B : Nat} {D : DataW Unit} {pb : Nat → Nat} {F : Nat → Prop} {m : Mm} (h : MemO W M B D pb F m) {p : Nat} (hp : p ∈ m.pgs) (hk : KP W.heap.size (· = pb p) W W') (m' : Mm) (hok : Okm m') (hpg : m'.pgs = m.pgs) (hbd : m'.bud = m.bud)
    (hbx : BoxN W' (pb p) (pageC m' p).toArray) (hoth : ∀ q, q ≠ p → pageC m' q = pageC m q) : MemO W' M B D pb F m' := by
  have hbl : ∀ b, F b → b ≠ pb p → W'.heap[b]? = W.heap[b]? := fun b hf hne => hk.block b (h.lt b hf) hne
  refine ⟨hok, ?_, ?_, ?_, ?_, ?_, h.fm, h.fb, ?_, fun b hf => Nat.lt_of_lt_of_le (h.lt b hf) hk.size⟩
  · rw [hbd]; exact boxN_block h.box (hbl _ h.fm (fun e => h.pm hp e.symm))
  · rw [hpg]; exact own_block h.own (hbl _ h.fb (fun e => h.pB hp e.symm))
  · rw [hpg]; exact h.says
  · intro q hq
    rw [hpg] at hq
    by_cases e : q = p
    · subst e; exact hbx
    · rw [hoth q e]
      exact boxN_block (h.pg q hq) (hbl _ (h.fp q hq) (fun e2 => e (h.inj q hq p hp e2)))
  · rw [hpg]; exact h.inj
  · rw [hpg]; exact h.fp
/-- bytes written within a page: the page's cells -/
theorem page_wrL (m : Mm) (p i : Nat) (l : List Nat) (hl : l ≠ []) (hf : i + l.length ≤ 256) :
    pageC (wrL m (256 * p + i) l) p = pgC (updB (fun j => m.by_ (256 * p + j)) i l) (tgW (fun g => decide (8 * p + g ∈ m.mks)) i l.length) := by
  rw [pageC_eq]
  refine pgC_ext (fun j hj => ?_) (fun g hg => ?_)
  · rw [wrL_by]
    unfold updB
    by_cases h : i ≤ j ∧ j < i + l.length
    · rw [dif_pos h, dif_pos (by omega)]
      congr 1
      omega
    · rw [dif_neg h, dif_neg (by omega)]
  · rw [wrL_mk _ _ _ hl]
    unfold tgW
    rw [Bool.eq_iff_iff]
    simp only [decide_eq_true_eq, List.mem_filter, Bool.and_eq_true, Bool.not_eq_true']
    rw [show inGr (256 * p + i) l.length (8 * p + g) = inGr i l.length g by unfold inGr; congr 1 <;> exact decide_eq_decide.2 (by omega)]
theorem page_other (m : Mm) (p i q : Nat) (l : List Nat) (hl : l ≠ []) (hf : i + l.length ≤ 256) (hq : q ≠ p) : pageC (wrL m (256 * p + i) l) q = pageC m q := by
  rw [pageC_eq, pageC_eq]
  refine pgC_ext (fun j hj => ?_) (fun g hg => ?_)
  · rw [wrL_by, dif_neg (by omega)]
  · rw [wrL_mk _ _ _ hl]
    refine decide_eq_decide.2 ?_
    rw [List.mem_filter]
    constructor
    · exact fun h => h.1
    · intro h
      refine ⟨h, ?_⟩
      have hpos := List.length_pos_iff.2 hl
      unfold inGr
      simp only [Bool.not_eq_true', Bool.and_eq_false_iff, decide_eq_false_iff_not]
      omega
/-- bytes are written into a memory's page -/
theorem wr_any (W : World) (M B : Nat) (D : DataW Unit) (pb : Nat → Nat) (F : Nat → Prop) (m : Mm) (h : MemO W M B D pb F m) (x n c : Nat) (a : Option Addr) (l : List Nat) (hp : x / 256 ∈ m.pgs) (hln : l.length = n) (hn : 0 < n) (hi : x % 256 + n ≤ 256) (hb : ∀ b ∈ l, b < 256)
    (hs : Rd W a n (u8s l)) (hne : ∀ g off, a = some ⟨g, off, none⟩ → ¬ F g) :
    Calls Tryz.prog 78 #[.pointer (some ⟨pb (x / 256), 0, none⟩), .int .i64 ((x % 256 : Nat) : Int), .slice a n c] W fun e W' => e = .returned (.tuple #[]) ∧ MemO W' M B D pb F (wrL m x l) ∧ KP W.heap.size (· = pb (x / 256)) W W' := by
  have hbx := h.pg _ hp
  rw [pageC_eq] at hbx
  have hl : l ≠ [] := by intro e; subst e; simp at hln; omega
  have hx : 256 * (x / 256) + x % 256 = x := by omega
  refine (write_any W (pb (x / 256)) (x % 256) n c a _ _ l hbx hln hn hi hs (fun g off e e2 => hne g off e (e2 ▸ h.fp _ hp))).mono ?_
  rintro e W' ⟨rfl, h1, h2⟩
  refine ⟨rfl, h.turn hp h2 _ ?_ (wrL_pgs m x l).1 (wrL_pgs m x l).2 ?_ ?_, h2⟩
  · refine okm_wrL h.ok (fun i hi2 => ?_) hb
    rw [show (x + i) / 256 = x / 256 by omega]
    exact hp
  · have := page_wrL m (x / 256) (x % 256) l hl (by omega)
    rw [hx] at this
    rw [this, hln]
    exact h1
  · intro q hq
    have := page_other m (x / 256) (x % 256) q l hl (by omega) hq
    rwa [hx] at this
theorem littleZ_eq (w : Int) (n : Nat) (h1 : 1 ≤ n) (h8 : n ≤ 8) : littleZ w (n : Int) = littleN w.toNat n := by
  unfold littleZ
  rw [if_neg (by omega), Int.toNat_natCast]
theorem littleN_lt (w n : Nat) : ∀ x ∈ littleN w n, x < 256 := fun x hx => by
  obtain ⟨i, -, rfl⟩ := List.mem_map.1 hx
  unfold byteN
  exact Nat.mod_lt _ (by decide)
set_option maxRecDepth 20000 in
theorem store_any (W : World) (M : Nat) (F : Nat → Prop) (m : Mm) (h : MemAt W M F m) (a : Nat) (n w : Int) (ha : a < 18446744073709551616) (hw0 : 0 ≤ w) (hw1 : w < 18446744073709551616) :
    Calls Tryz.prog 34 #[.pointer (some ⟨M, 0, none⟩), .int .u64 (a : Int), .int .i64 n, .int .u64 w] W fun e W' => e = .returned (.int .i64 (storeF m a n w).2) ∧ MemAt W' M F (storeF m a n w).1 ∧ KP W.heap.size F W W' := by
  obtain ⟨B, D, pb, h⟩ := h
  have HN := Lib.hid (number_any W M B D pb F m h a n ha)
  rcases num_place pb m a n with ⟨he, hn, hal, hin, hv⟩ | ⟨he, hv⟩
  · have hl : storeF m a n w = (wrL m a (littleN w.toNat n.toNat), 0) := by unfold storeF; rw [if_pos he, Int.toNat_natCast]
    rw [hl]
    rw [hv] at HN
    obtain ⟨k, rfl⟩ : ∃ k : Nat, n = k := ⟨n.toNat, by omega⟩
    rw [Int.toNat_natCast] at hal ⊢
    have hf : a % 256 + k ≤ 256 := by
      have h1 : k = 1 ∨ k = 2 ∨ k = 4 ∨ k = 8 := by omega
      rcases h1 with rfl | rfl | rfl | rfl <;> omega
    have HL := Lib.hid (little_any w k W hw0 hw1)
    rw [littleZ_eq w k (by omega) (by omega), littleN_length] at HL
    have HH := Lib.hid h
    have HIN := Lib.hid hin
    have hk0 : 0 < k := by omega
    clear hl hv he h hin
    go_enter Tryz.func34, Tryz.ntmps34
    go_wp2_with fail
    refine HN.out.mono ?_; rintro e W1 ⟨rfl, rfl⟩
    go_wp2_with fail
    refine HL.out.mono ?_; rintro e W2 ⟨v, rfl, hown, hb⟩
    obtain ⟨va, vc, rfl, -⟩ := own_slice hown
    have HM2 := Lib.hid (HH.out.below hb)
    have HWR := Lib.hid (wr_any W2 M B D pb F m HM2.out a k vc va (littleN w.toNat k) HIN.out (littleN_length _ _) hk0 hf (littleN_lt _ _) (Rd.of_own hown) (fun g off e hg => by
      rcases hown.2 with ⟨e0, e1⟩ | ⟨g', cap, cur, e1, hg', -⟩
      · omega
      · rw [Value.slice.injEq] at e1
        rw [e1.1] at e
        cases e
        have := HH.out.lt _ hg
        omega))
    have HKB := Lib.hid (KP.of_below F hb)
    have hsz := hb.size
    clear hown hb
    go_wp2_with fail
    refine HWR.out.mono ?_; rintro e W3 ⟨rfl, hm3, hk3⟩
    have HK3 : Hid (KP W.heap.size F W W3) := Lib.hid (HKB.out.trans (hk3.mono hsz (fun b _ e => by rw [e]; exact HH.out.fp _ HIN.out)))
    have HM3 := Lib.hid hm3.at_
    clear hm3 hk3
    go_wp2_with fail
    go_ret
    exact ⟨rfl, HM3.out, HK3.out⟩
  · have hl : storeF m a n w = (m, numE m a n) := by unfold storeF; rw [if_neg he]
    rw [hl]
    rw [hv] at HN
    obtain ⟨e1, he1⟩ : ∃ e, numE m a n = e := ⟨_, rfl⟩
    rw [he1] at HN he ⊢
    have HH := Lib.hid h.at_
    clear hl hv h he1
    go_enter Tryz.func34, Tryz.ntmps34
    go_wp2_with fail
    refine HN.out.mono ?_; rintro e W1 ⟨rfl, rfl⟩
    go_wp2_with fail
    go_ret
    exact ⟨rfl, HH.out, KP.refl _ _ _⟩
end Go.Proofs.YtegoddghfjfibaaGreatDoor


