/- Merged: CeR CeT CeL CeM CeS CeN CeO CeP CeQ CeU CeV CeW CeX CeZ. -/
import Derived.Test.YteaididdamihlaaCe1
import Derived.Test.YteaididdamihlaaWordD
import Derived.Laws.BytesString
import Derived.LoopTactic
import Derived.Outline
import Derived.OpenShut
import Derived.Lib.SmallJoins
import Derived.Deep.RegionHeld3
import Derived.Deep.RegionWith
import Derived.Laws.NewBlocks
import Derived.Maps.AppendAt
import Derived.OwnWalk
import Derived.WalkMore
import Derived.BigRegion
import Derived.Deep.Cut
import Derived.Deep.RegionLaw
import Derived.Deep.QuietTactic
import Derived.BigQuiet
import Derived.ProofKit
import Derived.Carry
import Derived.ChangeMaps5
import Derived.Deep.Slices
import Derived.Deep.Fields
import Derived.ChangeSame
namespace Go.Proofs.Yteaididdamihlaa.Ce
set_option linter.unusedVariables false
set_option linter.unusedSimpArgs false
open Go.Joins Go.ChangeShapes Go.WideShapes Go.ChangeAt Go.RowKit

/-- what lay below n, but blocks of S, lies as it lay -/
structure KP (n : Nat) (S : Nat → Prop) (W W' : World) : Prop where
  os : W'.os = W.os
  tape : W'.tape = W.tape
  output : W'.output = W.output
  size : W.heap.size ≤ W'.heap.size
  block : ∀ b, b < n → ¬ S b → W'.heap[b]? = W.heap[b]?
theorem KP.refl (n : Nat) (S : Nat → Prop) (W : World) : KP n S W W := ⟨rfl, rfl, rfl, Nat.le_refl _, fun _ _ _ => rfl⟩
theorem KP.trans {n : Nat} {S : Nat → Prop} {A B C : World} (h : KP n S A B) (k : KP n S B C) : KP n S A C := ⟨k.os.trans h.os, k.tape.trans h.tape, k.output.trans h.output, Nat.le_trans h.size k.size, fun b h1 h2 => (k.block b h1 h2).trans (h.block b h1 h2)⟩
theorem KP.mono {n m : Nat} {S T : Nat → Prop} {A B : World} (h : KP n S A B) (hm : m ≤ n) (hS : ∀ b, b < m → S b → T b) : KP m T A B := ⟨h.os, h.tape, h.output, h.size, fun b h1 h2 => h.block b (by omega) (fun q => h2 (hS b h1 q))⟩
theorem KP.grown {n : Nat} {S : Nat → Prop} {A B C : World} {row : Option Nat} (h : KP n S A B) (hg : B.grownBy C row) (hn : n ≤ B.heap.size) (hr : ∀ r, row = some r → n ≤ r ∨ S r) : KP n S A C :=
  h.trans ⟨hg.os, hg.tape, hg.output, hg.size, fun b h1 h2 => hg.block b (by omega) (fun e => by rcases hr b e.symm with h3 | h3; omega; exact h2 h3)⟩
theorem KP.below {n : Nat} {S : Nat → Prop} {A B C : World} {m : Nat} (h : KP n S A B) (hb : Below m B C) (hn : n ≤ m) : KP n S A C :=
  h.trans ⟨hb.os, hb.tape, hb.output, hb.size, fun b h1 _ => hb.block b (by omega)⟩
theorem KP.set {n : Nat} {S : Nat → Prop} {A B : World} (h : KP n S A B) (p : Addr) (hp : n ≤ p.block ∨ S p.block) (u : Value) : KP n S A (B.setCell p u) :=
  h.trans ⟨((Below.refl 0 B).setCell (p := p) (Nat.zero_le _) u).os, ((Below.refl 0 B).setCell (p := p) (Nat.zero_le _) u).tape, ((Below.refl 0 B).setCell (p := p) (Nat.zero_le _) u).output, ((Below.refl 0 B).setCell (p := p) (Nat.zero_le _) u).size, fun b h1 h2 => Below.heap_setCell _ _ _ _ (fun e => by rcases hp with h3 | h3; omega; exact h2 (e ▸ h3))⟩
theorem KP.set1 (W : World) (R j : Nat) (u : Value) : KP W.heap.size (· = R) W (W.setCell ⟨R, j, none⟩ u) := (KP.refl W.heap.size (· = R) W).set ⟨R, j, none⟩ (Or.inr rfl) u
theorem KP.drew {n : Nat} {S : Nat → Prop} {A B : World} (h : KP n S A B) : KP n S A B.drew := h.trans ⟨rfl, rfl, rfl, Nat.le_refl _, fun _ _ _ => rfl⟩
theorem KP.alloc {n : Nat} {S : Nat → Prop} {A B : World} (h : KP n S A B) (o : Obj) (hn : n ≤ B.heap.size) : KP n S A (B.alloc o) := h.below (bAlloc (Below.refl _ _) o) hn
theorem KP.cell {n : Nat} {S : Nat → Prop} {A B : World} (h : KP n S A B) {b off : Nat} {v : Value} (hb : b < n) (hx : ¬ S b) (hc : A.cell? ⟨b, off, none⟩ = some v) : B.cell? ⟨b, off, none⟩ = some v := (World.cell?_of_block (h.block b hb hx)).trans hc
theorem KP.frozen {n : Nat} {S : Nat → Prop} {A B : World} (h : KP n S A B) {b off : Nat} {q : Bool} (hb : b < n) (hx : ¬ S b) (hc : A.frozen? ⟨b, off, none⟩ = q) : B.frozen? ⟨b, off, none⟩ = q := (World.frozen?_of_block (h.block b hb hx)).trans hc
theorem KP.rd {n : Nat} {S : Nat → Prop} {A B : World} (h : KP n S A B) {a : Option Addr} {m : Nat} {xs : List Value} (hr : Rd A a m xs) (hx : ∀ b off, 0 < m → a = some ⟨b, off, none⟩ → b < n ∧ ¬ S b) : Rd B a m xs :=
  ⟨hr.1, fun hn => by
    obtain ⟨b, off, e, hl, hc⟩ := hr.2 hn
    obtain ⟨h1, h2⟩ := hx b off hn e
    exact ⟨b, off, e, Nat.lt_of_lt_of_le hl h.size, fun k hk => (World.cell?_of_block (h.block b h1 h2)).trans (hc k hk)⟩⟩
/-- all that lay before, the world apart -/
theorem KP.to_below {n : Nat} {S : Nat → Prop} {A B : World} (h : KP n S A B) {m : Nat} (hm : m ≤ n) (hS : ∀ b, b < m → ¬ S b) : Below m A B := ⟨h.os, h.tape, h.output, h.size, fun b hb => h.block b (by omega) (hS b hb)⟩
/-- a block that holds these cells -/
def BoxN (W : World) (B : Nat) (cs : Array Value) : Prop := ∃ t, W.heap[B]? = some (.cells cs t (0, 0))
theorem BoxN.cell {W : World} {B : Nat} {cs : Array Value} (h : BoxN W B cs) (j : Nat) : W.cell? ⟨B, j, none⟩ = cs[j]? := by
  obtain ⟨t, h⟩ := h
  simp [World.cell?, h]
theorem BoxN.frozen {W : World} {B : Nat} {cs : Array Value} (h : BoxN W B cs) (j : Nat) : W.frozen? ⟨B, j, none⟩ = false := by
  obtain ⟨t, h⟩ := h
  simp [World.frozen?, h]
theorem BoxN.lt {W : World} {B : Nat} {cs : Array Value} (h : BoxN W B cs) : B < W.heap.size := by
  obtain ⟨t, h⟩ := h
  exact (Array.getElem?_eq_some_iff.1 h).1
theorem BoxN.new (W : World) (cs : Array Value) (t : TypeId) : BoxN (W.alloc (.cells cs t)) W.heap.size cs := ⟨t, heap_alloc_new W _⟩
theorem BoxN.below {W W' : World} {B : Nat} {cs : Array Value} {m : Nat} (h : BoxN W B cs) (hb : Below m W W') (hm : B < m) : BoxN W' B cs := by
  obtain ⟨t, h⟩ := h
  exact ⟨t, (hb.block B hm).trans h⟩
theorem BoxN.kp {W W' : World} {B n : Nat} {S : Nat → Prop} {cs : Array Value} (h : BoxN W B cs) (hk : KP n S W W') (hB : B < n) (hS : ¬ S B) : BoxN W' B cs := by
  obtain ⟨t, h⟩ := h
  exact ⟨t, (hk.block B hB hS).trans h⟩
theorem BoxN.set {W : World} {B : Nat} {cs : Array Value} (h : BoxN W B cs) (j : Nat) (x : Value) : BoxN (W.setCell ⟨B, j, none⟩ x) B (cs.setIfInBounds j x) := by
  obtain ⟨t, h⟩ := h
  refine ⟨t, ?_⟩
  obtain ⟨hlt, hk⟩ := Array.getElem?_eq_some_iff.1 h
  show (W.heap.modify B _)[B]? = _
  rw [Array.getElem?_eq_getElem (by rw [Array.size_modify]; exact hlt), Array.getElem_modify_self, hk]
  rfl

/-! What the reader reads: plain mathematics. -/
structure St where
  rest : List UInt8
  wrong : Int
def takeP (n : Nat) (s : St) : List UInt8 × St := if s.wrong = 0 then (if s.rest.length < n then ([], ⟨s.rest, 101⟩) else (s.rest.take n, ⟨s.rest.drop n, 0⟩)) else ([], s)
def nats (l : List UInt8) : List Nat := l.map UInt8.toNat
def numP (n : Nat) (s : St) : Nat × St := (ofB (nats (takeP n s).1), (takeP n s).2)
def textP (s : St) : List UInt8 × St := takeP (numP 1 s).1 (numP 1 s).2
theorem nats_lt (l : List UInt8) : ∀ b ∈ nats l, b < 256 := fun b hb => by
  obtain ⟨x, -, rfl⟩ := List.mem_map.1 hb
  exact UInt8.toNat_lt x
theorem u8v_nats (l : List UInt8) : u8v l = u8s (nats l) := by simp [u8v, u8s, nats]
theorem takeP_len (n : Nat) (s : St) : (takeP n s).1.length ≤ n := by
  unfold takeP
  split
  · split
    · simp
    · simp; omega
  · simp
theorem takeP_rest (n : Nat) (s : St) : (takeP n s).2.rest.length ≤ s.rest.length := by
  unfold takeP
  split
  · split <;> simp
  · simp
theorem numP_lt (n : Nat) (s : St) : (numP n s).1 < 2 ^ (8 * n) := by
  unfold numP ofB
  have h1 := ofN_lt ((nats (takeP n s).1).take 8) fun b hb => nats_lt _ b (List.mem_of_mem_take hb)
  have h2 : ((nats (takeP n s).1).take 8).length ≤ n := by
    have := takeP_len n s
    rw [List.length_take]
    simp only [nats, List.length_map]
    omega
  exact Nat.lt_of_lt_of_le h1 (Nat.pow_le_pow_right (by decide) (by omega))
/-- bytes that lie below base -/
def BytesIn (base : Nat) (W : World) (a : Option Addr) (l : List UInt8) : Prop := Rd W a l.length (u8v l) ∧ (0 < l.length → ∃ b off, a = some ⟨b, off, none⟩ ∧ b < base)
theorem BytesIn.nil (base : Nat) (W : World) (a : Option Addr) : BytesIn base W a [] := ⟨Rd.nil _ _, fun h => absurd h (by simp)⟩
theorem BytesIn.kp {base n : Nat} {S : Nat → Prop} {W W' : World} {a : Option Addr} {l : List UInt8} (h : BytesIn base W a l) (hk : KP n S W W') (hn : base ≤ n) (hS : ∀ b, b < base → ¬ S b) : BytesIn base W' a l :=
  ⟨hk.rd h.1 fun b off h0 e => by
    obtain ⟨b', off', e', hl⟩ := h.2 h0
    rw [e] at e'; cases e'
    exact ⟨by omega, hS _ hl⟩, h.2⟩
theorem BytesIn.take {base : Nat} {W : World} {a : Option Addr} {l : List UInt8} (h : BytesIn base W a l) (n : Nat) : BytesIn base W a (l.take n) := by
  refine ⟨⟨u8v_len _, fun h0 => ?_⟩, fun h0 => h.2 (by rw [List.length_take] at h0; omega)⟩
  rw [List.length_take] at h0
  obtain ⟨b, off, e, hl, hc⟩ := h.1.2 (by omega)
  refine ⟨b, off, e, hl, fun k hk => ?_⟩
  rw [List.length_take] at hk
  rw [hc k (by omega)]
  simp [u8v, List.getElem?_take, show k < n by omega]
def tailA (a : Option Addr) (n c : Nat) : Option Addr := if c = n then a else a.map fun x => x.add (n * 1)
theorem BytesIn.drop {base : Nat} {W : World} {a : Option Addr} {l : List UInt8} (h : BytesIn base W a l) (n c : Nat) (hc : l.length ≤ c) : BytesIn base W (tailA a n c) (l.drop n) := by
  have key : 0 < (l.drop n).length → ∃ b off, a = some ⟨b, off, none⟩ ∧ tailA a n c = some ⟨b, off + n, none⟩ := fun h0 => by
    rw [List.length_drop] at h0
    obtain ⟨b, off, e, hl, -⟩ := h.1.2 (by omega)
    refine ⟨b, off, e, ?_⟩
    unfold tailA
    rw [if_neg (by omega), e, Nat.mul_one]
    simp [Addr.add]
  refine ⟨⟨u8v_len _, fun h0 => ?_⟩, fun h0 => ?_⟩
  · obtain ⟨b, off, e, et⟩ := key h0
    obtain ⟨b', off', e', hl, hq⟩ := h.1.2 (by rw [List.length_drop] at h0; omega)
    rw [e] at e'; cases e'
    refine ⟨b, off + n, et, hl, fun k hk => ?_⟩
    rw [List.length_drop] at hk
    rw [Nat.add_assoc, hq (n + k) (by omega)]
    simp [u8v]
  · obtain ⟨b, off, e, et⟩ := key h0
    obtain ⟨b', off', e', hl⟩ := h.2 (by rw [List.length_drop] at h0; omega)
    rw [e] at e'; cases e'
    exact ⟨b, off + n, et, hl⟩
/-- the reader R, made at base or behind it, has this state -/
structure RdAt (base R : Nat) (W : World) (s : St) : Prop where
  lo : base ≤ R
  box : ∃ a c, BoxN W R #[.slice a s.rest.length c, .int .i64 s.wrong] ∧ s.rest.length ≤ c ∧ BytesIn base W a s.rest
  len : s.rest.length < 9223372036854775808
theorem RdAt.kp {base R n : Nat} {S : Nat → Prop} {W W' : World} {s : St} (h : RdAt base R W s) (hk : KP n S W W') (hR : R < n) (hS : ∀ b, b ≤ R → ¬ S b) : RdAt base R W' s := by
  obtain ⟨lo, ⟨a, c, h1, h2, h3⟩, hl⟩ := h
  exact ⟨lo, ⟨a, c, h1.kp hk hR (hS R (Nat.le_refl _)), h2, h3.kp hk (by omega) (fun b hb => hS b (by omega))⟩, hl⟩
theorem RdAt.below {base R : Nat} {W W' : World} {s : St} (h : RdAt base R W s) (hb : Below W.heap.size W W') : RdAt base R W' s := by
  obtain ⟨a, c, h1, -, -⟩ := h.box
  exact h.kp (n := W.heap.size) (S := fun _ => False) ⟨hb.os, hb.tape, hb.output, hb.size, fun b h1 _ => hb.block b h1⟩ h1.lt (fun _ _ => id)
theorem RdAt.lt {base R : Nat} {W : World} {s : St} (h : RdAt base R W s) : R < W.heap.size := by
  obtain ⟨a, c, h1, -, -⟩ := h.box
  exact h1.lt
theorem KP.of_below {W W' : World} (S : Nat → Prop) (hb : Below W.heap.size W W') : KP W.heap.size S W W' := ⟨hb.os, hb.tape, hb.output, hb.size, fun b h1 _ => hb.block b h1⟩
theorem RdAt.err {base R : Nat} {W : World} {s : St} (h : RdAt base R W s) (e : Int) : RdAt base R (W.setCell ⟨R, 1, none⟩ (.int .i64 e)) ⟨s.rest, e⟩ := by
  obtain ⟨lo, ⟨a, c, h1, h2, h3⟩, hl⟩ := h
  have hk : KP W.heap.size (· = R) W (W.setCell ⟨R, 1, none⟩ (.int .i64 e)) := KP.set1 _ _ _ _
  exact ⟨lo, ⟨a, c, h1.set 1 _, h2, h3.kp hk (by have := h1.lt; omega) (fun b hb q => by have : b = R := q; omega)⟩, hl⟩
theorem RdAt.moved {base R : Nat} {W : World} {a0 a : Option Addr} {n c : Nat} {e : Int} (lo : base ≤ R) (h1 : BoxN W R #[.slice a0 n c, .int .i64 e]) (l' : List UInt8) (h3 : BytesIn base W a l') (c' : Nat) (h2 : l'.length ≤ c') (hl : l'.length < 9223372036854775808) :
    RdAt base R (W.setCell ⟨R, 0, none⟩ (.slice a l'.length c')) ⟨l', e⟩ := by
  have hk : KP W.heap.size (· = R) W (W.setCell ⟨R, 0, none⟩ (.slice a l'.length c')) := KP.set1 _ _ _ _
  exact ⟨lo, ⟨a, c', h1.set 0 _, h2, h3.kp hk (by have := h1.lt; omega) (fun b hb q => by have : b = R := q; omega)⟩, hl⟩
end Go.Proofs.Yteaididdamihlaa.Ce

namespace Go.Proofs.Yteaididdamihlaa.Ce
set_option linter.unusedVariables false
set_option linter.unusedSimpArgs false
open Go.Joins Go.ChangeShapes Go.WideShapes Go.ChangeAt Go.RowKit

theorem foldl_push (l : List UInt8) : ∀ (s : ByteArray), (l.map (fun b => (b.toNat : Int))).foldl (fun r n => r.push (UInt8.ofNat n.toNat)) s = ⟨s.data ++ l.toArray⟩ := by
  induction l with
  | nil => intro s; cases s; simp
  | cons b l ih =>
    intro s
    rw [List.map_cons, List.foldl_cons, ih]
    simp [ByteArray.push]
theorem run_str (W : World) (base : Nat) (a : Option Addr) (c : Nat) (l : List UInt8) (h : BytesIn base W a l) : (convert 38 9 (.slice a l.length c)).run Try.prog W = .ok (.string ⟨l.toArray⟩) W := by
  rw [run_convert_bytes_string W 38 9 5 a l.length c Try.underlying38 Try.underlying5 Try.underlying9]
  cases a with
  | none =>
    have hl : l = [] := by
      rcases Nat.eq_zero_or_pos l.length with h0 | h0
      · exact List.eq_nil_of_length_eq_zero h0
      · obtain ⟨b, off, e, -⟩ := h.2 h0; cases e
    subst hl
    simp [Conv.bytesToString, Sem.run_pure]
    try rfl
  | some ad =>
    have hld : (loadCells ad l.length).run Try.prog W = .ok ((l.map (fun b => (b.toNat : Int))).map (Value.int .u8)).toArray W := by
      have h2 := run_loadCells_list (P := Try.prog) W ad (u8v l) (fun j v hj => by
        have hj2 : j < l.length := by rw [← u8v_len l]; exact (List.getElem?_eq_some_iff.1 hj).1
        obtain ⟨b, off, e, -, hc⟩ := h.1.2 (by omega)
        cases e
        rw [add_plain, hc j hj2, hj])
      rw [u8v_len] at h2
      rw [h2]
      simp [u8v, Function.comp_def]
    rw [run_bytesToString W ad l.length c (l.map (fun b => (b.toNat : Int))) hld, foldl_push]
    simp
    try rfl
end Go.Proofs.Yteaididdamihlaa.Ce

namespace Go.Proofs.Yteaididdamihlaa.Ce
set_option linter.unusedVariables false
set_option linter.unusedSimpArgs false
open Go.Joins Go.ChangeShapes Go.WideShapes Go.ChangeAt Go.RowKit Go.Deep

theorem run_appE {P : Program} (sl el : TypeId) (z : Value) (k bytes : Nat) (hu : P.underlying sl = some (.slice el)) (hinfo : (P.info? el).map (fun i => (i.zero, i.size, i.bytes)) = some (some z, k, bytes)) (hzs : z.cells.size = k) (hk : 0 < k) (hby : bytes ≤ 1000)
    (w : World) (ty : TypeId) (B : Nat) (v : Value) (n : Nat) (xs : List Value) (hown : w.ownsRow B el k v n xs) (am : Option Addr) (m c : Nat) (ys : List Value) (hr : Rd w am (m * k) ys) (hone : ∀ u ∈ ys, u.oneCell' = true) (hnm : n + m ≤ 1000000) (hB : B ≤ w.heap.size) :
    ∃ a' c' w', (Builtin.append_ #[sl, sl] ty #[v, .slice am m c]).run P w = .ok (.slice a' (n + m) c') w' ∧ w'.ownsRow B el k (.slice a' (n + m) c') (n + m) (xs ++ ys) ∧ w.grownBy w' v.ownBlock ∧ ((Value.slice a' (n + m) c').ownBlock = v.ownBlock ∨ (Value.slice a' (n + m) c').ownBlock = some w.heap.size) := by
  obtain ⟨i0, hi, hz0, hz1, hz2⟩ := info_parts hinfo
  cases am with
  | none =>
    have hm0 : m = 0 := by
      rcases Nat.eq_zero_or_pos m with h | h
      · exact h
      · obtain ⟨b, off, e, -⟩ := hr.2 (Nat.mul_pos h hk); cases e
    subst hm0
    have hy : ys = [] := List.eq_nil_of_length_eq_zero (by have := hr.1; simpa using this)
    subst hy
    obtain ⟨a', c', rfl, -⟩ := own_slice hown
    refine ⟨a', c', w, ?_, by simpa using hown, ⟨rfl, rfl, rfl, Nat.le_refl _, fun _ _ _ => rfl⟩, Or.inl rfl⟩
    rcases hown.2 with ⟨h1, rfl⟩ | ⟨g, cap, cur, h1, _, _, hnc, _⟩
    · cases h1
      simp [Builtin.append_, run_underlying hu, sizeOf, typeInfo, hi, Builtin.lenOf, Builtin.firstCells]
    · cases h1
      simp [Builtin.append_, run_underlying hu, sizeOf, typeInfo, hi, Builtin.lenOf, Builtin.firstCells, hnc, storeCells]
  | some ad =>
    have hl : ys.length = m * k := hr.1
    have hnews : ∀ j u, ys[j]? = some u → w.cell? (ad.add j) = some u := by
      intro j u hj
      have hjm : j < m * k := by
        have := (List.getElem?_eq_some_iff.1 hj).1
        rw [hl] at this; exact this
      obtain ⟨b, off, e, -, hc⟩ := Rd.at_ hr hjm
      cases e
      rw [hj] at hc
      rw [add_plain]
      exact hc
    obtain ⟨v', w', h2, h3, h4, -, h5⟩ := run_append_own_at (P := P) w B sl ty el i0 z k bytes hu hi hz0 hz1 hz2 hzs hk v n xs hown ad m c ys hl hnews hone (by unfold maxLen; omega)
      (Nat.le_trans (Nat.mul_le_mul hnm hby) (by decide)) hB
    obtain ⟨a', c', rfl, -⟩ := own_slice h3
    exact ⟨a', c', w', h2, h3, h4, h5⟩
theorem wpList_appE {P : Program} (sl el : TypeId) (z : Value) (k bytes : Nat) (hu : P.underlying sl = some (.slice el)) (hinfo : (P.info? el).map (fun i => (i.zero, i.size, i.bytes)) = some (some z, k, bytes)) (hzs : z.cells.size = k) (hk : 0 < k) (hby : bytes ≤ 1000)
    (w : World) {ops : Array Oper} {rest : List Oper} {o : Oper} {a : Act} {Q : Exit → Act → World → Prop} (hgd : o.guard = none) (s x : Operand) (ho : o.op = .call { callee := .builtin .append, args := #[s, x], argTypes := #[sl, sl] })
    (B : Nat) (v : Value) (n : Nat) (xs : List Value) (hs : a.eval s = v) (hown : w.ownsRow B el k v n xs) (am : Option Addr) (m c : Nat) (ys : List Value) (hx : a.eval x = .slice am m c) (hr : Rd w am (m * k) ys) (hone : ∀ u ∈ ys, u.oneCell' = true) (hnm : n + m ≤ 1000000) (hB : B ≤ w.heap.size)
    (h : ∀ a' c' w', w'.ownsRow B el k (.slice a' (n + m) c') (n + m) (xs ++ ys) → w.grownBy w' v.ownBlock → ((Value.slice a' (n + m) c').ownBlock = v.ownBlock ∨ (Value.slice a' (n + m) c').ownBlock = some w.heap.size) → wpList P ops Q rest (a.put o.dst (.slice a' (n + m) c')) w') : wpList P ops Q (o :: rest) a w := by
  refine wpList_plain hgd fun K hK => ?_
  obtain ⟨a', c', w', hrun, h2, h3, h4⟩ := run_appE sl el z k bytes hu hinfo hzs hk hby w o.type B v n xs hown am m c ys hr hone hnm hB
  unfold Oper.wp execOp
  simp only [ho, resolve, invoke, builtin, Sem.run_bind, Sem.run_pure, Result.andThen_ok, List.map_toArray, List.map_cons, List.map_nil, hs, hx, hrun]
  exact hK _ _ (h a' c' w' h2 h3 h4)
theorem infoStr : (Try.prog.info? 9).map (fun i => (i.zero, i.size, i.bytes)) = some (some (.string ⟨#[]⟩), 1, 16) := by kernel_rfl
theorem infoInt : (Try.prog.info? 3).map (fun i => (i.zero, i.size, i.bytes)) = some (some (.int .i64 0), 1, 8) := by kernel_rfl
theorem infoRel : (Try.prog.info? 97).map (fun i => (i.zero, i.size, i.bytes)) = some (some (.agg #[.int .u64 0, .int .i64 0]), 2, 16) := by kernel_rfl
theorem infoSym : (Try.prog.info? 84).map (fun i => (i.zero, i.size, i.bytes)) = some (some (.agg #[.string ⟨#[]⟩, .string ⟨#[]⟩, .int .u64 0, .int .u64 0, .int .i64 0, .int .i64 0, .int .i64 0, .bool false]), 8, 80) := by kernel_rfl
theorem infoSeg : (Try.prog.info? 40).map (fun i => (i.zero, i.size, i.bytes)) = some (some (.agg #[.int .u64 0, .int .u64 0, .int .i64 0, .slice none 0 0]), 4, 48) := by kernel_rfl

theorem step_kp {W Wi Wj : World} {R : Nat} (hkp : KP W.heap.size (· = R) W Wi) (h : KP Wi.heap.size (· = R) Wi Wj) : KP W.heap.size (· = R) W Wj := hkp.trans (h.mono hkp.size (fun _ _ => id))
theorem step_box {Wi Wj : World} {R B : Nat} {cs : Array Value} (hb : BoxN Wi B cs) (h : KP Wi.heap.size (· = R) Wi Wj) (hne : B ≠ R) : BoxN Wj B cs := hb.kp h hb.lt hne
theorem kp_alloc (W : World) (R : Nat) (o : Obj) : KP W.heap.size (· = R) W (W.alloc o) := (KP.refl W.heap.size (· = R) W).alloc o (Nat.le_refl _)
theorem kp_set {W Wi : World} {R : Nat} (h : KP W.heap.size (· = R) W Wi) {B j : Nat} (hB : W.heap.size ≤ B) (u : Value) : KP W.heap.size (· = R) W (Wi.setCell ⟨B, j, none⟩ u) := h.set ⟨B, j, none⟩ (Or.inl hB) u
theorem rd_setB {base R : Nat} {Wi : World} {s : St} (h : RdAt base R Wi s) {B j : Nat} (hB : R < B) (u : Value) : RdAt base R (Wi.setCell ⟨B, j, none⟩ u) s :=
  h.kp (n := R + 1) (S := fun _ => False) ((KP.refl (R + 1) (fun _ => False) Wi).set ⟨B, j, none⟩ (Or.inl hB) u) (Nat.lt_succ_self R) (fun _ _ => id)
def relP (s : St) : Rel × St := (⟨((numP 4 s).1 : Int), ((numP 2 (numP 4 s).2).1 : Int)⟩, (numP 2 (numP 4 s).2).2)
end Go.Proofs.Yteaididdamihlaa.Ce

namespace Go.Proofs.Yteaididdamihlaa.Ce
set_option linter.unusedVariables false
set_option linter.unusedSimpArgs false
open Go.Joins Go.ChangeShapes Go.WideShapes Go.ChangeAt Go.RowKit Go.Deep

def symP (s : St) : Sym × St :=
  let a := textP s; let b := textP a.2; let c := numP 4 b.2; let d := numP 4 c.2; let e := numP 1 d.2; let f := numP 1 e.2; let g := numP 1 f.2; let h := numP 1 g.2
  (⟨a.1, b.1, (c.1 : Int), (d.1 : Int), (e.1 : Int), (f.1 : Int), (g.1 : Int), decide ((h.1 : Int) = 1)⟩, if h.2.wrong = 0 ∧ 1 < h.1 then ⟨h.2.rest, 106⟩ else h.2)
end Go.Proofs.Yteaididdamihlaa.Ce

namespace Go.Proofs.Yteaididdamihlaa.Ce
set_option linter.unusedVariables false
set_option linter.unusedSimpArgs false
open Go.Joins Go.ChangeShapes Go.WideShapes Go.ChangeAt Go.RowKit Go.Deep

theorem step_appE {P : Program} (sl el : TypeId) (z : Value) (k bytes : Nat) (hu : P.underlying sl = some (.slice el)) (hinfo : (P.info? el).map (fun i => (i.zero, i.size, i.bytes)) = some (some z, k, bytes)) (hzs : z.cells.size = k) (hk : 0 < k) (hby : bytes ≤ 1000)
    (w : World) {ops : Array Oper} {o : Oper} {a : Act} {K : Act → World → Prop} {Q : Exit → Act → World → Prop} {E : Prop} (hgd : o.guard = none) (s x : Operand) (ho : o.op = .call { callee := .builtin .append, args := #[s, x], argTypes := #[sl, sl] })
    (B : Nat) (v : Value) (n : Nat) (xs : List Value) (hs : a.eval s = v) (hown : w.ownsRow B el k v n xs) (am : Option Addr) (m c : Nat) (ys : List Value) (hx : a.eval x = .slice am m c) (hr : Rd w am (m * k) ys) (hone : ∀ u ∈ ys, u.oneCell' = true) (hnm : n + m ≤ 1000000) (hB : B ≤ w.heap.size)
    (h : ∀ a' c' w', w'.ownsRow B el k (.slice a' (n + m) c') (n + m) (xs ++ ys) → w.grownBy w' v.ownBlock → ((Value.slice a' (n + m) c').ownBlock = v.ownBlock ∨ (Value.slice a' (n + m) c').ownBlock = some w.heap.size) → K (a.put o.dst (.slice a' (n + m) c')) w') :
    if Region.wanted o (yielded ops a.tmps) = true then Oper.wp P o a w K Q else E := by
  have hw : Region.wanted o (yielded ops a.tmps) = true := by simp [Region.wanted, hgd]
  rw [if_pos hw]
  obtain ⟨a', c', w', hrun, h2, h3, h4⟩ := run_appE sl el z k bytes hu hinfo hzs hk hby w o.type B v n xs hown am m c ys hr hone hnm hB
  unfold Oper.wp execOp
  simp only [ho, resolve, invoke, builtin, Sem.run_bind, Sem.run_pure, Result.andThen_ok, List.map_toArray, List.map_cons, List.map_nil, hs, hx, hrun]
  exact h a' c' w' h2 h3 h4
theorem infoU8' : (Try.prog.info? 5).map (fun i => (i.zero, i.size, i.bytes)) = some (some (.int .u8 0), 1, 1) := by kernel_rfl
theorem u8v_one (l : List UInt8) : ∀ u ∈ u8v l, u.oneCell' = true := fun u hu => by
  obtain ⟨b, -, rfl⟩ := List.mem_map.1 hu
  rfl
theorem RdAt.drew {base R : Nat} {W : World} {s : St} (h : RdAt base R W s) : RdAt base R W.drew s := ⟨h.lo, h.box, h.len⟩
theorem BytesIn.rd {base : Nat} {W : World} {a : Option Addr} {l : List UInt8} (h : BytesIn base W a l) : Rd W a (l.length * 1) (u8v l) := by rw [Nat.mul_one]; exact h.1
/-- bytes that lie in a block of P -/
def NewB (P : Nat → Prop) (W : World) (a : Option Addr) (l : List UInt8) : Prop := Rd W a l.length (u8v l) ∧ (0 < l.length → ∃ b off, a = some ⟨b, off, none⟩ ∧ P b)
theorem NewB.kp {P : Nat → Prop} {n : Nat} {S : Nat → Prop} {W W' : World} {a : Option Addr} {l : List UInt8} (h : NewB P W a l) (hk : KP n S W W') (hn : W.heap.size ≤ n) (hS : ∀ b, P b → b < W.heap.size → ¬ S b) : NewB P W' a l :=
  ⟨hk.rd h.1 fun b off h0 e => by
    obtain ⟨b', off', e', hl⟩ := h.2 h0
    obtain ⟨b2, off2, e2, hl2, -⟩ := h.1.2 h0
    rw [e] at e'; cases e'
    rw [e] at e2; cases e2
    exact ⟨by omega, hS _ hl hl2⟩, h.2⟩
theorem NewB.mono {P P' : Nat → Prop} {W : World} {a : Option Addr} {l : List UInt8} (h : NewB P W a l) (hR : ∀ b, b < W.heap.size → P b → P' b) : NewB P' W a l :=
  ⟨h.1, fun h0 => by
    obtain ⟨b, off, e, hl⟩ := h.2 h0
    obtain ⟨b2, off2, e2, hl2, -⟩ := h.1.2 h0
    rw [e] at e2; cases e2
    exact ⟨b, off, e, hR b hl2 hl⟩⟩
theorem newB_of_own {B : Nat} {W : World} {a : Option Addr} {n c : Nat} {l : List UInt8} {e : TypeId} (h : W.ownsRow B e 1 (.slice a n c) n (u8v l)) (hn : l.length = n) : NewB (fun b => B ≤ b) W a l := by
  subst hn
  refine ⟨Rd.of_own h, fun h0 => ?_⟩
  rcases h.2 with ⟨-, e⟩ | ⟨g, cap, cur, e, hB, -⟩
  · omega
  · cases e
    exact ⟨g, 0, rfl, hB⟩
def segP (s : St) : (Int × Int × Int × List UInt8) × St :=
  let a := numP 4 s; let b := numP 4 a.2; let c := numP 1 b.2; let d := numP 4 c.2; let e := takeP d.1 d.2
  (((a.1 : Int), (b.1 : Int), (c.1 : Int), e.1), e.2)
end Go.Proofs.Yteaididdamihlaa.Ce

namespace Go.Proofs.Yteaididdamihlaa.Ce
set_option linter.unusedVariables false
set_option linter.unusedSimpArgs false
open Go.Joins Go.ChangeShapes Go.WideShapes Go.ChangeAt Go.RowKit Go.Deep

def listP {α : Type} (one : St → α × St) : Nat → St → List α × St
  | 0, s => ([], s)
  | n + 1, s => if s.wrong = 0 then ((one s).1 :: (listP one n (one s).2).1, (listP one n (one s).2).2) else ([], s)
theorem listP_wrong {α : Type} (one : St → α × St) (n : Nat) (s : St) (h : s.wrong ≠ 0) : listP one n s = ([], s) := by
  cases n with
  | zero => rfl
  | succ n => unfold listP; rw [if_neg h]
theorem listP_step {α : Type} {one : St → α × St} {n : Nat} {s : St} (h : s.wrong = 0) {x : α} {s1 : St} (hx : one s = (x, s1)) : listP one (n + 1) s = (x :: (listP one n s1).1, (listP one n s1).2) := by
  rw [listP, if_pos h, hx]
def listH {α : Type} (one : St → α × St) (s : St) : List α × St := listP one (numP 2 s).1 (numP 2 s).2
theorem own_kp {w w' : World} {R B k n : Nat} {e : TypeId} {v : Value} {xs : List Value} (h : w.ownsRow B e k v n xs) (hk : KP w.heap.size (· = R) w w') (hB : R < B) : w'.ownsRow B e k v n xs :=
  h.kept (row := some R) ⟨hk.os, hk.tape, hk.output, hk.size, fun b hb hne => hk.block b hb (fun q => hne (by rw [q]))⟩ (Or.inr (fun e => by have := (h.lt R e).1; omega))
theorem own_rd {w : World} {B k n c : Nat} {e : TypeId} {a : Option Addr} {xs : List Value} (h : w.ownsRow B e k (.slice a n c) n xs) : Rd w a (n * k) xs := by
  refine ⟨h.1, fun hn => ?_⟩
  rcases h.2 with ⟨e, h0⟩ | ⟨g, cap, cur, hv, _, hg, hnc, _, hs, htake⟩
  · subst h0; simp at hn
  · cases hv
    refine ⟨g, 0, rfl, (Array.getElem?_eq_some_iff.1 hg).1, fun j hj => ?_⟩
    rw [Nat.zero_add]
    exact h.cellAt j hj
theorem txs_snoc (xs : List (List UInt8)) (x : List UInt8) : txs (xs ++ [x]) = txs xs ++ [.string ⟨x.toArray⟩] := by simp [txs, strV]
theorem i64s_snoc (xs : List Int) (x : Int) : i64s (xs ++ [x]) = i64s xs ++ [.int .i64 x] := by simp [i64s]
theorem symsC_snoc (xs : List Sym) (x : Sym) : symsC (xs ++ [x]) = symsC xs ++ symC x := by simp [symsC]
theorem relsC_snoc (xs : List Rel) (x : Rel) : relsC (xs ++ [x]) = relsC xs ++ relC x := by simp [relsC]
theorem segsC_snoc (xs : List Seg) (x : Seg) : segsC (xs ++ [x]) = segsC xs ++ segC x := by simp [segsC]
def halfP (s : St) : Int × St := (((numP 2 s).1 : Int), (numP 2 s).2)
def coreG (g : Seg) : Int × Int × Int × List UInt8 := (g.place, g.size, g.flags, g.bytes)
theorem segP_rest (s : St) : (segP s).2.rest.length ≤ s.rest.length := by
  unfold segP numP
  simp only []
  exact Nat.le_trans (takeP_rest _ _) (Nat.le_trans (takeP_rest _ _) (Nat.le_trans (takeP_rest _ _) (Nat.le_trans (takeP_rest _ _) (takeP_rest _ _))))
end Go.Proofs.Yteaididdamihlaa.Ce

namespace Go.Proofs.Yteaididdamihlaa.Ce
set_option linter.unusedVariables false
set_option linter.unusedSimpArgs false
open Go.Joins Go.ChangeShapes Go.WideShapes Go.ChangeAt Go.RowKit Go.Deep

def magicL : List UInt8 := [67, 69, 76, 70, 1]
theorem ext5 (s : List UInt8) (h : s.length ≤ 5) : (ByteArray.mk s.toArray).extract 0 5 = ⟨s.toArray⟩ := by
  apply ByteArray.ext
  simp [ByteArray.extract, ByteArray.copySlice]
  exact List.take_of_length_le h
structure Core where
  name : List UInt8
  needs : List (List UInt8)
  segs : List (Int × Int × Int × List UInt8)
  syms : List Sym
  rels : List Rel
  init : List Int
  fini : List Int
def coreO (o : Ob) : Core := ⟨o.name, o.needs, o.segs.map coreG, o.syms, o.rels, o.init, o.fini⟩
def magicP (s : St) : St := if s.rest.take 5 == magicL then s else ⟨s.rest, 100⟩
def objP (s : St) : Core × St :=
  let s1 := (takeP 5 (magicP s)).2
  let a := textP s1; let b := listH textP a.2; let c := listH segP b.2; let d := listH symP c.2; let e := listH relP d.2; let f := listH halfP e.2; let g := listH halfP f.2
  (⟨a.1, b.1, c.1, d.1, e.1, f.1, g.1⟩, g.2)
theorem listP_rest {α : Type} {one : St → α × St} (h : ∀ s, (one s).2.rest.length ≤ s.rest.length) (n : Nat) (s : St) : (listP one n s).2.rest.length ≤ s.rest.length := by
  induction n generalizing s with
  | zero => exact Nat.le_refl _
  | succ n ih =>
    unfold listP
    split
    · exact Nat.le_trans (ih _) (h s)
    · exact Nat.le_refl _
theorem textP_rest (s : St) : (textP s).2.rest.length ≤ s.rest.length := Nat.le_trans (takeP_rest _ _) (takeP_rest _ _)
theorem listH_rest {α : Type} {one : St → α × St} (h : ∀ s, (one s).2.rest.length ≤ s.rest.length) (s : St) : (listH one s).2.rest.length ≤ s.rest.length := Nat.le_trans (listP_rest h _ _) (takeP_rest _ _)
theorem own_kp2 {w w' : World} {R X B k n : Nat} {e : TypeId} {v : Value} {xs : List Value} (h : w.ownsRow B e k v n xs) (hk : KP w.heap.size (fun b => b = R ∨ b = X) w w') (hR : R < B) (hX : X < B) : w'.ownsRow B e k v n xs := by
  refine ⟨h.1, ?_⟩
  rcases h.2 with h0 | ⟨g, cap, cur, hv, hB, hg, hrest⟩
  · exact Or.inl h0
  · exact Or.inr ⟨g, cap, cur, hv, hB, (hk.block g (Array.getElem?_eq_some_iff.1 hg).1 (fun q => by rcases q with q | q <;> omega)).trans hg, hrest⟩
theorem kp2 {Wi Wj : World} {R X j : Nat} (hk : KP Wi.heap.size (· = R) Wi Wj) (u : Value) : KP Wi.heap.size (fun b => b = R ∨ b = X) Wi (Wj.setCell ⟨X, j, none⟩ u) := (show KP Wi.heap.size (fun b => b = R ∨ b = X) Wi Wj from hk.mono (Nat.le_refl _) (fun _ _ q => Or.inl q)).set ⟨X, j, none⟩ (Or.inr (Or.inr rfl)) u
theorem size_setCell (w : World) (p : Addr) (u : Value) : (w.setCell p u).heap.size = w.heap.size := by simp
theorem own_kpS {w w' : World} {S : Nat → Prop} {B k n : Nat} {e : TypeId} {v : Value} {xs : List Value} (h : w.ownsRow B e k v n xs) (hk : KP w.heap.size S w w') (hS : ∀ b, B ≤ b → ¬ S b) : w'.ownsRow B e k v n xs := by
  refine ⟨h.1, ?_⟩
  rcases h.2 with h0 | ⟨g, cap, cur, hv, hB, hg, hrest⟩
  · exact Or.inl h0
  · exact Or.inr ⟨g, cap, cur, hv, hB, (hk.block g (Array.getElem?_eq_some_iff.1 hg).1 (hS g hB)).trans hg, hrest⟩
theorem newB_kp2 {P : Nat → Prop} {W W' : World} {R X B : Nat} {a : Option Addr} {l : List UInt8} (h : NewB P W a l) (hk : KP W.heap.size (fun b => b = R ∨ b = X) W W') (hP : ∀ b, P b → B ≤ b) (hR : R < B) (hX : X < B) : NewB P W' a l :=
  h.kp hk (Nat.le_refl _) (fun b hb _ q => by have := hP b hb; rcases q with q | q <;> omega)
end Go.Proofs.Yteaididdamihlaa.Ce

namespace Go.Proofs.Yteaididdamihlaa.Ce
set_option linter.unusedVariables false
set_option linter.unusedSimpArgs false
open Go.Joins Go.ChangeShapes Go.WideShapes Go.ChangeAt Go.RowKit Go.Deep

theorem listP_len {α : Type} (one : St → α × St) (n : Nat) (s : St) : (listP one n s).1.length ≤ n := by
  induction n generalizing s with
  | zero => exact Nat.le_refl _
  | succ n ih =>
    unfold listP
    split
    · simpa using ih _
    · simp
theorem listP_all {α : Type} {one : St → α × St} {P : α → Prop} (h : ∀ s, P (one s).1) (n : Nat) (s : St) : ∀ x ∈ (listP one n s).1, P x := by
  induction n generalizing s with
  | zero => intro x hx; exact absurd hx (by simp [listP])
  | succ n ih =>
    unfold listP
    split
    · intro x hx
      rcases List.mem_cons.1 hx with rfl | hx
      · exact h s
      · exact ih _ x hx
    · intro x hx; simp at hx
theorem listH_len {α : Type} (one : St → α × St) (s : St) : (listH one s).1.length < 65536 := Nat.lt_of_le_of_lt (listP_len _ _ _) (numP_lt 2 s)
theorem listH_all {α : Type} {one : St → α × St} {P : α → Prop} (h : ∀ s, P (one s).1) (s : St) : ∀ x ∈ (listH one s).1, P x := listP_all h _ _
theorem textP_len (s : St) : (textP s).1.length < 256 := Nat.lt_of_le_of_lt (takeP_len _ _) (numP_lt 1 s)
theorem num4_in (s : St) : u64B ((numP 4 s).1 : Int) := by
  have h : (numP 4 s).1 < 4294967296 := numP_lt 4 s
  constructor <;> omega
/-- what is read fits -/
theorem fit_of {o : Ob} {s : St} (h : coreO o = (objP s).1) : FitOb o := by
  obtain ⟨nm, nd, sg, sy, rl, ini, fin, na, nc, ga, gc, sa, sc, ra, rc, ia, ic, fa, fc⟩ := o
  unfold coreO objP at h
  simp only [Core.mk.injEq] at h
  obtain ⟨h1, h2, h3, h4, h5, h6, h7⟩ := h
  constructor
  · show nm.length < _
    rw [h1]; exact Nat.lt_trans (textP_len _) (by decide)
  · show ∀ n ∈ nd, _
    rw [h2]; exact listH_all (one := textP) (P := fun n : List UInt8 => n.length < 9223372036854775808) (fun s => Nat.lt_trans (textP_len s) (by decide)) _
  · show nd.length < _
    rw [h2]; exact Nat.lt_trans (listH_len _ _) (by decide)
  · show sg.length < _
    have := listH_len segP (listH textP (textP (takeP 5 (magicP s)).2).2).2
    rw [← h3, List.length_map] at this
    omega
  · show ∀ s ∈ sg, _
    intro g hg
    have ha := listH_all (one := segP) (P := fun c => u64B c.1 ∧ u64B c.2.1 ∧ c.2.2.2.length < 9223372036854775808) (fun s => ⟨num4_in _, num4_in _, by
      have h8 : (segP s).1.2.2.2.length ≤ _ := takeP_len _ _
      have h9 := numP_lt 4 (numP 1 (numP 4 (numP 4 s).2).2).2
      exact Nat.lt_of_le_of_lt h8 (Nat.lt_trans h9 (by decide))⟩) (listH textP (textP (takeP 5 (magicP s)).2).2).2 (coreG g) (by rw [← h3]; exact List.mem_map_of_mem hg)
    exact ha
  · show sy.length < _
    rw [h4]; exact Nat.lt_trans (listH_len _ _) (by decide)
  · show ∀ s ∈ sy, _
    rw [h4]
    exact listH_all (one := symP) (P := fun s : Sym => u64B s.place ∧ u64B s.size ∧ s.name.length < 9223372036854775808 ∧ s.ver.length < 9223372036854775808) (fun s => ⟨num4_in _, num4_in _, Nat.lt_trans (textP_len _) (by decide), Nat.lt_trans (textP_len _) (by decide)⟩) _
  · show rl.length < _
    rw [h5]; exact Nat.lt_trans (listH_len _ _) (by decide)
  · show ∀ s ∈ rl, _
    rw [h5]; exact listH_all (one := relP) (P := fun s : Rel => u64B s.place) (fun s => num4_in _) _
  · show ini.length < _
    rw [h6]; exact Nat.lt_trans (listH_len _ _) (by decide)
  · show fin.length < _
    rw [h7]; exact Nat.lt_trans (listH_len _ _) (by decide)
/-! What is wrong hangs on the object alone, not on where it lies. -/
def bareG (c : Int × Int × Int × List UInt8) : Seg := ⟨c.1, c.2.1, c.2.2.1, c.2.2.2, none, 0⟩
def bareO (c : Core) : Ob := ⟨c.name, c.needs, c.segs.map bareG, c.syms, c.rels, c.init, c.fini, none, 0, none, 0, none, 0, none, 0, none, 0, none, 0⟩
def checkC (c : Core) : Int := checkF (bareO c)
theorem firstI_map {α β : Type} (f : α → β) (p : β → Bool) (l : List α) : firstI p (l.map f) = firstI (fun x => p (f x)) l := by
  unfold firstI
  rw [List.findIdx?_map]
  rfl
theorem bare_at (l : List Seg) (x n : Int) : atF ((l.map coreG).map bareG) x n = atF l x n := by
  unfold atF
  rw [firstI_map, firstI_map]
  rfl
theorem bare_segs (f : Int) (l : List Seg) : segsB f ((l.map coreG).map bareG) = segsB f l := by
  induction l generalizing f with
  | nil => rfl
  | cons s r ih =>
    show (segB f (bareG (coreG s)) && segsB (upP (s.place + s.size)) ((r.map coreG).map bareG)) = (segB f s && segsB (upP (s.place + s.size)) r)
    rw [ih]
    rfl
theorem bare_flags (l : List Seg) (i : Int) : flagsAt ((l.map coreG).map bareG) i = flagsAt l i := by
  unfold flagsAt
  rw [List.getElem?_map, List.getElem?_map]
  cases l[i.toNat]? <;> rfl
theorem bare_sym (l : List Seg) (s : Sym) : symB ((l.map coreG).map bareG) s = symB l s := by
  unfold symB
  rw [bare_at, bare_flags]
theorem bare_write (l : List Seg) (x n : Int) : writeB ((l.map coreG).map bareG) x n = writeB l x n := by
  unfold writeB
  rw [List.any_map, List.any_map]
  rfl
theorem bare_rels (l : List Seg) (sy : List Sym) (f : Int) (r : List Rel) : relsB ((l.map coreG).map bareG) sy f r = relsB l sy f r := by
  induction r generalizing f with
  | nil => rfl
  | cons x r ih =>
    show (relB _ sy f x && relsB _ sy _ r) = (relB l sy f x && relsB l sy _ r)
    rw [ih]
    unfold relB
    rw [bare_write]
theorem check_core (o : Ob) : checkF o = checkC (coreO o) := by
  have hs : (o.syms.all (symB ((o.segs.map coreG).map bareG))) = o.syms.all (symB o.segs) := by
    congr 1
    funext s
    exact bare_sym _ s
  unfold checkC checkF
  show _ = (if !namesB o then 103 else if !countsB (bareO (coreO o)) then 104 else if !segsB 0 ((o.segs.map coreG).map bareG) then 105 else if !o.syms.all (symB ((o.segs.map coreG).map bareG)) then 106 else if !relsB ((o.segs.map coreG).map bareG) o.syms 0 o.rels then 107 else if !(o.init.all (fnB o.syms) && o.fini.all (fnB o.syms)) then 108 else 0)
  rw [bare_segs, hs, bare_rels]
  have hc : countsB (bareO (coreO o)) = countsB o := by unfold countsB bareO coreO; simp
  rw [hc]
def emptyC : Core := ⟨[], [], [], [], [], [], []⟩
def emptyO : Ob := ⟨[], [], [], [], [], [], [], none, 0, none, 0, none, 0, none, 0, none, 0, none, 0⟩
theorem empty_rd (W : World) : RdOb W emptyO := ⟨Rd.nil _ _, Rd.nil _ _, fun s hs => by simp [emptyO] at hs, Rd.nil _ _, Rd.nil _ _, Rd.nil _ _, Rd.nil _ _⟩
theorem empty_fit : FitOb emptyO := ⟨by decide, by simp [emptyO], by decide, by decide, by simp [emptyO], by decide, by simp [emptyO], by decide, by simp [emptyO], by decide, by decide⟩
def wrongP (r : Core × St) : Int := if r.2.wrong = 0 ∧ 0 < r.2.rest.length then 102 else r.2.wrong
def parseR (r : Core × St) : Core × Int := if wrongP r = 0 then (if checkC r.1 = 0 then (r.1, 0) else (emptyC, checkC r.1)) else (emptyC, wrongP r)
def parseF (b : List UInt8) : Core × Int := parseR (objP ⟨b, 0⟩)
end Go.Proofs.Yteaididdamihlaa.Ce

namespace Go.Proofs.Yteaididdamihlaa.Ce
set_option linter.unusedVariables false
set_option linter.unusedSimpArgs false
open Go.Joins Go.ChangeShapes Go.WideShapes Go.ChangeAt Go.RowKit Go.Deep

theorem below_set {w w' : World} (h : Below w.heap.size w w') {B j : Nat} (hB : w.heap.size ≤ B) (u : Value) : Below w.heap.size w (w'.setCell ⟨B, j, none⟩ u) := Below.setCell h (p := ⟨B, j, none⟩) hB u
theorem boxN_drew {W : World} {B : Nat} {cs : Array Value} (h : BoxN W B cs) : BoxN W.drew B cs := h
theorem below_drew {w w' : World} (h : Below w.heap.size w w') : Below w.heap.size w w'.drew := ⟨h.os, h.tape, h.output, h.size, h.block⟩
end Go.Proofs.Yteaididdamihlaa.Ce

namespace Go.Proofs.Yteaididdamihlaa.Ce
set_option linter.unusedVariables false
set_option linter.unusedSimpArgs false
open Go.Joins Go.ChangeShapes Go.WideShapes Go.ChangeAt Go.RowKit Go.Deep

def emptyL : List UInt8 := [67, 69, 76, 70, 1, 1, 97, 0, 0, 0, 0, 0, 0, 0, 0, 0, 0, 0, 0]
theorem em_0 : (parseF emptyL).2 = 0 ∧ (parseF emptyL).1.name = [97] ∧ (parseF emptyL).1.needs = [] := by decide +kernel
theorem em_1 : (parseF (emptyL ++ [0])).2 = 102 := by decide +kernel
theorem em_2 : (parseF (emptyL.take 18)).2 = 101 := by decide +kernel
theorem em_3 : (parseF []).2 = 100 := by decide +kernel
theorem em_4 : (parseF [67, 69, 76, 70, 2]).2 = 100 := by decide +kernel
theorem lit_own (w : World) (l : List UInt8) (n : Nat) (hn : l.length = n) (hm : n ≤ 1000) (cs : Array Value) (hcs : cs = (u8v l).toArray) : (w.alloc (.cells cs 5)).ownsRow w.heap.size 5 1 (.slice (some ⟨w.heap.size, 0, none⟩) n n) n (u8v l) := by
  subst hcs
  have h := World.ownsRow_lit (base := w.heap.size) (e := 5) (size := 1) w (u8v l).toArray n (Nat.le_refl _) (by unfold maxLen; omega) (by simp [u8v, hn])
  simpa using h
theorem rd_own1 {w : World} {B n c : Nat} {a : Option Addr} {l : List UInt8} (h : w.ownsRow B 5 1 (.slice a n c) n (u8v l)) : Rd w a n (u8v l) := Rd.of_own h
def seg1 : Seg := ⟨256, 10, 0, [], none, 0⟩
theorem grownB {w w1 w2 : World} {row : Option Nat} (h : Below w.heap.size w w1) (hg : w1.grownBy w2 row) (hr : ∀ q, row = some q → w.heap.size ≤ q) : Below w.heap.size w w2 :=
  h.trans ⟨hg.os, hg.tape, hg.output, hg.size, fun k hk => hg.block k (Nat.lt_of_lt_of_le hk h.size) (fun e => by have := hr k e.symm; omega)⟩
theorem rd_take8 {w : World} {a : Option Addr} {n : Nat} {l : List UInt8} (h : Rd w a n (u8v l)) (k : Nat) (hk : k ≤ n) : Rd w a k (u8v (l.take k)) := by
  have hl : l.length = n := by rw [← u8v_len]; exact h.1
  refine ⟨by rw [u8v_len, List.length_take]; omega, fun h0 => ?_⟩
  obtain ⟨b, o, e, hl2, hc⟩ := h.2 (by omega)
  refine ⟨b, o, e, hl2, fun j hj => ?_⟩
  rw [hc j (by omega)]
  simp [u8v, List.getElem?_take, hj]
theorem own_cap {w : World} {B k n c : Nat} {e : TypeId} {a : Option Addr} {xs : List Value} (h : w.ownsRow B e k (.slice a n c) n xs) : n ≤ c := by
  rcases h.2 with ⟨e, h0⟩ | ⟨g, cap, cur, e, _, _, h1, _⟩
  · omega
  · cases e; exact h1
/-- two cells of a box, and that it is there -/
def Two (B : Nat) (u v : Value) (W : World) : Prop := W.cell? ⟨B, 0, none⟩ = some u ∧ W.cell? ⟨B, 1, none⟩ = some v
theorem Two.below {B : Nat} {u v : Value} {W W' : World} (h : Two B u v W) (hb : Below W.heap.size W W') : Two B u v W' := by
  have hl : B < W.heap.size := heap_lt_of_cell h.1
  exact ⟨(hb.cell (p := ⟨B, 0, none⟩) hl).trans h.1, (hb.cell (p := ⟨B, 1, none⟩) hl).trans h.2⟩
end Go.Proofs.Yteaididdamihlaa.Ce

namespace Go.Proofs.Yteaididdamihlaa.Ce
set_option linter.unusedVariables false
set_option linter.unusedSimpArgs false
set_option maxRecDepth 100000
open Go.Joins Go.ChangeShapes Go.WideShapes Go.ChangeAt Go.RowKit Go.Deep

theorem bytes_eta (s : ByteArray) : (⟨s.data.toList.toArray⟩ : ByteArray) = s := by cases s; simp
theorem list_of {α : Type} {n : Nat} {Q : Nat → α → Prop} (h : ∀ i, i < n → ∃ s, Q i s) : ∃ l : List α, l.length = n ∧ ∀ i (hi : i < l.length), Q i l[i] := by
  induction n with
  | zero => exact ⟨[], rfl, fun i hi => absurd hi (by simp)⟩
  | succ n ih =>
    obtain ⟨l, hl, hq⟩ := ih fun i hi => h i (by omega)
    obtain ⟨s, hs⟩ := h n (by omega)
    refine ⟨l ++ [s], by simp [hl], fun i hi => ?_⟩
    by_cases e : i < l.length
    · rw [List.getElem_append_left e]; exact hq i e
    · have : i = l.length := by simp at hi; omega
      subst this
      rw [List.getElem_append_right (Nat.le_refl _)]
      simp only [Nat.sub_self, List.getElem_cons_zero]
      rw [hl]; exact hs
theorem objCells : Try.prog.cellsOf 28 = 7 := by kernel_rfl
theorem symCells : Try.prog.cellsOf 84 = 8 := by kernel_rfl
theorem segCells : Try.prog.cellsOf 40 = 4 := by kernel_rfl
theorem relCells : Try.prog.cellsOf 97 = 2 := by kernel_rfl
theorem strCells : Try.prog.cellsOf 9 = 1 := by kernel_rfl
theorem intCells : Try.prog.cellsOf 3 = 1 := by kernel_rfl
theorem u8Cells : Try.prog.cellsOf 5 = 1 := by kernel_rfl
theorem flat_one {α : Type} (g : α → Value) (l : List α) : l.flatMap (fun x => [g x]) = l.map g := by
  induction l with
  | nil => rfl
  | cons x l ih => rw [List.flatMap_cons, ih]; rfl
section
variable {H : Type} {enc : TypeId × Value → H}
theorem two_of {P : Program} {w : World} {base fuel : Nat} {spare : Nat → Bool} {held : Bool} {t : TypeId} {f0 f1 : Field} {cs : List Value} {x : DataW H × List MemPlace}
    (hs : P.underlying t = some (.struct #[f0, f1])) (hone : oneCellFields P #[f0, f1] = true) (hC : P.cellsOf t = 2) (h : DataW.trod enc P w base spare held fuel t cs = some x) :
    ∃ (v0 v1 : Value) (y0 y1 : DataW H × List MemPlace) (n : Nat), cs = [v0, v1] ∧ x = (.agg [y0.1, y1.1], y0.2 ++ (y1.2 )) ∧
      DataW.trod enc P w base spare held n f0.type [v0] = some y0 ∧ DataW.trod enc P w base spare held n f1.type [v1] = some y1 := by
  obtain ⟨xs, n, _, hx, hcl, hlen, hg⟩ := DataW.trod_struct hs h
  match cs, hcl.trans hC with
  | [c0, c1], _ =>
    obtain ⟨o0, k0⟩ := hone_of hone 0 f0 rfl
    obtain ⟨o1, k1⟩ := hone_of hone 1 f1 rfl
    match xs, hlen with
    | [y0, y1], _ =>
      exact ⟨c0, c1, y0, y1, n, rfl, by simpa using hx, by simpa [o0, k0] using hg 0 f0 rfl, by simpa [o1, k1] using hg 1 f1 rfl⟩
theorem four_of {P : Program} {w : World} {base fuel : Nat} {spare : Nat → Bool} {held : Bool} {t : TypeId} {f0 f1 f2 f3 : Field} {cs : List Value} {x : DataW H × List MemPlace}
    (hs : P.underlying t = some (.struct #[f0, f1, f2, f3])) (hone : oneCellFields P #[f0, f1, f2, f3] = true) (hC : P.cellsOf t = 4) (h : DataW.trod enc P w base spare held fuel t cs = some x) :
    ∃ (v0 v1 v2 v3 : Value) (y0 y1 y2 y3 : DataW H × List MemPlace) (n : Nat), cs = [v0, v1, v2, v3] ∧ x = (.agg [y0.1, y1.1, y2.1, y3.1], y0.2 ++ (y1.2 ++ (y2.2 ++ (y3.2 )))) ∧
      DataW.trod enc P w base spare held n f0.type [v0] = some y0 ∧ DataW.trod enc P w base spare held n f1.type [v1] = some y1 ∧ DataW.trod enc P w base spare held n f2.type [v2] = some y2 ∧ DataW.trod enc P w base spare held n f3.type [v3] = some y3 := by
  obtain ⟨xs, n, _, hx, hcl, hlen, hg⟩ := DataW.trod_struct hs h
  match cs, hcl.trans hC with
  | [c0, c1, c2, c3], _ =>
    obtain ⟨o0, k0⟩ := hone_of hone 0 f0 rfl
    obtain ⟨o1, k1⟩ := hone_of hone 1 f1 rfl
    obtain ⟨o2, k2⟩ := hone_of hone 2 f2 rfl
    obtain ⟨o3, k3⟩ := hone_of hone 3 f3 rfl
    match xs, hlen with
    | [y0, y1, y2, y3], _ =>
      exact ⟨c0, c1, c2, c3, y0, y1, y2, y3, n, rfl, by simpa using hx, by simpa [o0, k0] using hg 0 f0 rfl, by simpa [o1, k1] using hg 1 f1 rfl, by simpa [o2, k2] using hg 2 f2 rfl, by simpa [o3, k3] using hg 3 f3 rfl⟩
theorem seven_of {P : Program} {w : World} {base fuel : Nat} {spare : Nat → Bool} {held : Bool} {t : TypeId} {f0 f1 f2 f3 f4 f5 f6 : Field} {cs : List Value} {x : DataW H × List MemPlace}
    (hs : P.underlying t = some (.struct #[f0, f1, f2, f3, f4, f5, f6])) (hone : oneCellFields P #[f0, f1, f2, f3, f4, f5, f6] = true) (hC : P.cellsOf t = 7) (h : DataW.trod enc P w base spare held fuel t cs = some x) :
    ∃ (v0 v1 v2 v3 v4 v5 v6 : Value) (y0 y1 y2 y3 y4 y5 y6 : DataW H × List MemPlace) (n : Nat), cs = [v0, v1, v2, v3, v4, v5, v6] ∧ x = (.agg [y0.1, y1.1, y2.1, y3.1, y4.1, y5.1, y6.1], y0.2 ++ (y1.2 ++ (y2.2 ++ (y3.2 ++ (y4.2 ++ (y5.2 ++ (y6.2 ))))))) ∧
      DataW.trod enc P w base spare held n f0.type [v0] = some y0 ∧ DataW.trod enc P w base spare held n f1.type [v1] = some y1 ∧ DataW.trod enc P w base spare held n f2.type [v2] = some y2 ∧ DataW.trod enc P w base spare held n f3.type [v3] = some y3 ∧ DataW.trod enc P w base spare held n f4.type [v4] = some y4 ∧ DataW.trod enc P w base spare held n f5.type [v5] = some y5 ∧ DataW.trod enc P w base spare held n f6.type [v6] = some y6 := by
  obtain ⟨xs, n, _, hx, hcl, hlen, hg⟩ := DataW.trod_struct hs h
  match cs, hcl.trans hC with
  | [c0, c1, c2, c3, c4, c5, c6], _ =>
    obtain ⟨o0, k0⟩ := hone_of hone 0 f0 rfl
    obtain ⟨o1, k1⟩ := hone_of hone 1 f1 rfl
    obtain ⟨o2, k2⟩ := hone_of hone 2 f2 rfl
    obtain ⟨o3, k3⟩ := hone_of hone 3 f3 rfl
    obtain ⟨o4, k4⟩ := hone_of hone 4 f4 rfl
    obtain ⟨o5, k5⟩ := hone_of hone 5 f5 rfl
    obtain ⟨o6, k6⟩ := hone_of hone 6 f6 rfl
    match xs, hlen with
    | [y0, y1, y2, y3, y4, y5, y6], _ =>
      exact ⟨c0, c1, c2, c3, c4, c5, c6, y0, y1, y2, y3, y4, y5, y6, n, rfl, by simpa using hx, by simpa [o0, k0] using hg 0 f0 rfl, by simpa [o1, k1] using hg 1 f1 rfl, by simpa [o2, k2] using hg 2 f2 rfl, by simpa [o3, k3] using hg 3 f3 rfl, by simpa [o4, k4] using hg 4 f4 rfl, by simpa [o5, k5] using hg 5 f5 rfl, by simpa [o6, k6] using hg 6 f6 rfl⟩
theorem eight_of {P : Program} {w : World} {base fuel : Nat} {spare : Nat → Bool} {held : Bool} {t : TypeId} {f0 f1 f2 f3 f4 f5 f6 f7 : Field} {cs : List Value} {x : DataW H × List MemPlace}
    (hs : P.underlying t = some (.struct #[f0, f1, f2, f3, f4, f5, f6, f7])) (hone : oneCellFields P #[f0, f1, f2, f3, f4, f5, f6, f7] = true) (hC : P.cellsOf t = 8) (h : DataW.trod enc P w base spare held fuel t cs = some x) :
    ∃ (v0 v1 v2 v3 v4 v5 v6 v7 : Value) (y0 y1 y2 y3 y4 y5 y6 y7 : DataW H × List MemPlace) (n : Nat), cs = [v0, v1, v2, v3, v4, v5, v6, v7] ∧ x = (.agg [y0.1, y1.1, y2.1, y3.1, y4.1, y5.1, y6.1, y7.1], y0.2 ++ (y1.2 ++ (y2.2 ++ (y3.2 ++ (y4.2 ++ (y5.2 ++ (y6.2 ++ (y7.2 )))))))) ∧
      DataW.trod enc P w base spare held n f0.type [v0] = some y0 ∧ DataW.trod enc P w base spare held n f1.type [v1] = some y1 ∧ DataW.trod enc P w base spare held n f2.type [v2] = some y2 ∧ DataW.trod enc P w base spare held n f3.type [v3] = some y3 ∧ DataW.trod enc P w base spare held n f4.type [v4] = some y4 ∧ DataW.trod enc P w base spare held n f5.type [v5] = some y5 ∧ DataW.trod enc P w base spare held n f6.type [v6] = some y6 ∧ DataW.trod enc P w base spare held n f7.type [v7] = some y7 := by
  obtain ⟨xs, n, _, hx, hcl, hlen, hg⟩ := DataW.trod_struct hs h
  match cs, hcl.trans hC with
  | [c0, c1, c2, c3, c4, c5, c6, c7], _ =>
    obtain ⟨o0, k0⟩ := hone_of hone 0 f0 rfl
    obtain ⟨o1, k1⟩ := hone_of hone 1 f1 rfl
    obtain ⟨o2, k2⟩ := hone_of hone 2 f2 rfl
    obtain ⟨o3, k3⟩ := hone_of hone 3 f3 rfl
    obtain ⟨o4, k4⟩ := hone_of hone 4 f4 rfl
    obtain ⟨o5, k5⟩ := hone_of hone 5 f5 rfl
    obtain ⟨o6, k6⟩ := hone_of hone 6 f6 rfl
    obtain ⟨o7, k7⟩ := hone_of hone 7 f7 rfl
    match xs, hlen with
    | [y0, y1, y2, y3, y4, y5, y6, y7], _ =>
      exact ⟨c0, c1, c2, c3, c4, c5, c6, c7, y0, y1, y2, y3, y4, y5, y6, y7, n, rfl, by simpa using hx, by simpa [o0, k0] using hg 0 f0 rfl, by simpa [o1, k1] using hg 1 f1 rfl, by simpa [o2, k2] using hg 2 f2 rfl, by simpa [o3, k3] using hg 3 f3 rfl, by simpa [o4, k4] using hg 4 f4 rfl, by simpa [o5, k5] using hg 5 f5 rfl, by simpa [o6, k6] using hg 6 f6 rfl, by simpa [o7, k7] using hg 7 f7 rfl⟩
/-- a slice of elements of k cells -/
theorem rows_of {α : Type} {f : α → List Value} {Q : α → Prop} {k : Nat} {sl el : TypeId} {w : World} (hf : ∀ x, (f x).length = k) (hk : 0 < k) (hu : Try.prog.underlying sl = some (.slice el)) (hce : Try.prog.cellsOf el = k)
    (hone : ∀ n cs (x : DataW H × List MemPlace), DataW.trod enc Try.prog w 0 (fun _ => true) true n el cs = some x → ∃ e : α, cs = f e ∧ Q e) {fuel : Nat} {v : Value} {x : DataW H × List MemPlace} (h : DataW.trod enc Try.prog w 0 (fun _ => true) true fuel sl [v] = some x) :
    ∃ (a : Option Addr) (c : Nat) (l : List α), v = .slice a l.length c ∧ Rd w a (l.length * k) (l.flatMap f) ∧ (∀ e ∈ l, Q e) ∧ l.length ≤ maxLen ∧ l.length ≤ c := by
  rcases open_slice hu h with ⟨hcs, -⟩ | ⟨a, len', cap', m, n, D, Pl, hcs, -, hl, hm, hmm, -, hi⟩
  · simp at hcs
    subst hcs
    exact ⟨none, 0, [], rfl, ⟨by simp, fun h => absurd h (by simp)⟩, by simp, Nat.zero_le _, Nat.zero_le _⟩
  · simp at hcs
    subst hcs
    simp only [if_true] at hmm
    subst hmm
    rw [hce] at hi
    obtain ⟨l, hll, hq⟩ := list_of (n := len') (Q := fun i (e : α) => w.cells? 0 (a.add (i * k)) k = some (f e) ∧ Q e) fun i hin => by
      obtain ⟨cs', hc, ht⟩ := hi i (by omega)
      obtain ⟨e, rfl, he⟩ := hone _ _ _ ht
      exact ⟨e, hc, he⟩
    have hcell : ∀ i (hi : i < l.length) j, j < k → w.cell? (a.add (i * k + j)) = (f l[i])[j]? := fun i hi' j hj => by
      obtain ⟨hc, -⟩ := hq i hi'
      obtain ⟨_, hcl, hat⟩ := World.cells?_some hc
      have := hat j hj
      rwa [Go.Deep.add_add] at this
    refine ⟨some a, _, l, by rw [hll], ⟨flat_len hf l, fun h0 => ?_⟩, fun e he => ?_, by omega, by omega⟩
    · have hl0 : 0 < l.length := Nat.pos_of_mul_pos_right h0
      obtain ⟨b, off, spot⟩ := a
      have c0 := hcell 0 hl0 0 hk
      obtain ⟨u, hu0⟩ : ∃ u, (f l[0])[0]? = some u := ⟨(f l[0])[0]'(by rw [hf]; exact hk), List.getElem?_eq_getElem _⟩
      rw [hu0] at c0
      have hspot : spot = none := by simpa [Addr.add] using World.cell?_spot c0
      subst hspot
      refine ⟨b, off, rfl, ?_, fun q hq2 => ?_⟩
      · have := heap_lt_of_cell c0
        rwa [add_plain] at this
      · have hi2 : q / k < l.length := Nat.div_lt_of_lt_mul (by rw [Nat.mul_comm]; exact hq2)
        have hj2 : q % k < k := Nat.mod_lt _ hk
        have h1 := hcell (q / k) hi2 (q % k) hj2
        have h2 := flat_get hf l (q / k) hi2 (q % k) hj2
        rw [show q / k * k + q % k = q by rw [Nat.mul_comm]; exact Nat.div_add_mod q k] at h1 h2
        rw [h2, ← h1, add_plain]
    · obtain ⟨i, hi', rfl⟩ := List.getElem_of_mem he
      exact (hq i hi').2
theorem wf_u8 {n : Int} (h : (Lit.int .u8 n).wf = true) : 0 ≤ n ∧ n < 256 := by
  simp [Lit.wf, IntKind.min, IntKind.max, IntKind.signed, IntKind.bits] at h
  omega
theorem wf_u64b {n : Int} (h : (Lit.int .u64 n).wf = true) : u64B n := by
  simp [Lit.wf, IntKind.min, IntKind.max, IntKind.signed, IntKind.bits] at h
  unfold u64B
  omega
theorem bytes_of {w : World} {fuel : Nat} {v : Value} {x : DataW H × List MemPlace} (h : DataW.trod enc Try.prog w 0 (fun _ => true) true fuel 38 [v] = some x) :
    ∃ (a : Option Addr) (c : Nat) (l : List UInt8), v = .slice a l.length c ∧ Rd w a l.length (u8v l) ∧ l.length ≤ maxLen ∧ l.length ≤ c := by
  obtain ⟨a, c, l, rfl, hr, -, hm, hc⟩ := rows_of (f := fun b : UInt8 => [Value.int .u8 (b.toNat : Int)]) (Q := fun _ => True) (fun _ => rfl) (by decide) Try.underlying38 u8Cells (fun n cs x ht => by
    obtain ⟨z, rfl, -, k0⟩ := DataW.trod_int Try.underlying5 ht
    obtain ⟨h0, h1⟩ := wf_u8 k0
    refine ⟨UInt8.ofNat z.toNat, ?_, trivial⟩
    rw [UInt8.toNat_ofNat_of_lt' (by show z.toNat < 256; omega), Int.toNat_of_nonneg h0]) h
  rw [flat_one, Nat.mul_one] at hr
  exact ⟨a, c, l, rfl, hr, hm, hc⟩
theorem texts_of {w : World} {fuel : Nat} {v : Value} {x : DataW H × List MemPlace} (h : DataW.trod enc Try.prog w 0 (fun _ => true) true fuel 22 [v] = some x) :
    ∃ (a : Option Addr) (c : Nat) (l : List (List UInt8)), v = .slice a l.length c ∧ Rd w a l.length (txs l) ∧ (∀ t ∈ l, t.length ≤ maxLen) ∧ l.length ≤ maxLen ∧ l.length ≤ c := by
  obtain ⟨a, c, l, rfl, hr, hq, hm, hc⟩ := rows_of (f := fun s : List UInt8 => [strV s]) (Q := fun t => t.length ≤ maxLen) (fun _ => rfl) (by decide) Try.underlying22 strCells (fun n cs x ht => by
    obtain ⟨nm, rfl, -, k0⟩ := DataW.trod_string Try.underlying9 ht
    exact ⟨nm.data.toList, by unfold strV; rw [bytes_eta], by simpa using k0⟩) h
  rw [flat_one, Nat.mul_one] at hr
  exact ⟨a, c, l, rfl, hr, hq, hm, hc⟩
theorem ints_of {w : World} {fuel : Nat} {v : Value} {x : DataW H × List MemPlace} (h : DataW.trod enc Try.prog w 0 (fun _ => true) true fuel 26 [v] = some x) :
    ∃ (a : Option Addr) (c : Nat) (l : List Int), v = .slice a l.length c ∧ Rd w a l.length (i64s l) ∧ l.length ≤ maxLen ∧ l.length ≤ c := by
  obtain ⟨a, c, l, rfl, hr, hq, hm, hc⟩ := rows_of (f := fun s : Int => [Value.int .i64 s]) (Q := fun _ => True) (fun _ => rfl) (by decide) Try.underlying26 intCells (fun n cs x ht => by
    obtain ⟨z, rfl, -, k0⟩ := DataW.trod_int Try.underlying3 ht
    exact ⟨z, rfl, trivial⟩) h
  rw [flat_one, Nat.mul_one] at hr
  exact ⟨a, c, l, rfl, hr, hm, hc⟩
theorem syms_of {w : World} {fuel : Nat} {v : Value} {x : DataW H × List MemPlace} (h : DataW.trod enc Try.prog w 0 (fun _ => true) true fuel 24 [v] = some x) :
    ∃ (a : Option Addr) (c : Nat) (l : List Sym), v = .slice a l.length c ∧ RdS w a l ∧ (∀ s ∈ l, u64B s.place ∧ u64B s.size ∧ s.name.length ≤ maxLen ∧ s.ver.length ≤ maxLen) ∧ l.length ≤ maxLen ∧ l.length ≤ c :=
  rows_of symC_len (by decide) Try.underlying24 symCells (fun n cs x ht => by
    obtain ⟨v0, v1, v2, v3, v4, v5, v6, v7, y0, y1, y2, y3, y4, y5, y6, y7, n, rfl, rfl, h0, h1, h2, h3, h4, h5, h6, h7⟩ := eight_of Try.underlying84 (by kernel_rfl) symCells ht
    obtain ⟨nm, e0, -, k0⟩ := DataW.trod_string Try.underlying9 h0
    obtain ⟨vr, e1, -, k1⟩ := DataW.trod_string Try.underlying9 h1
    obtain ⟨pl, e2, -, k2⟩ := DataW.trod_int Try.underlying29 h2
    obtain ⟨sz, e3, -, k3⟩ := DataW.trod_int Try.underlying29 h3
    obtain ⟨kd, e4, -, k4⟩ := DataW.trod_int Try.underlying3 h4
    obtain ⟨bd, e5, -, k5⟩ := DataW.trod_int Try.underlying3 h5
    obtain ⟨sn, e6, -, k6⟩ := DataW.trod_int Try.underlying3 h6
    obtain ⟨df, e7, -⟩ := DataW.trod_bool Try.underlying4 h7
    cases e0; cases e1; cases e2; cases e3; cases e4; cases e5; cases e6; cases e7
    refine ⟨⟨nm.data.toList, vr.data.toList, pl, sz, kd, bd, sn, df⟩, ?_, wf_u64b k2, wf_u64b k3, by simpa using k0, by simpa using k1⟩
    simp only [symC, bytes_eta]) h
theorem rels_of {w : World} {fuel : Nat} {v : Value} {x : DataW H × List MemPlace} (h : DataW.trod enc Try.prog w 0 (fun _ => true) true fuel 25 [v] = some x) :
    ∃ (a : Option Addr) (c : Nat) (l : List Rel), v = .slice a l.length c ∧ RdR w a l ∧ (∀ s ∈ l, u64B s.place) ∧ l.length ≤ maxLen ∧ l.length ≤ c :=
  rows_of relC_len (by decide) Try.underlying25 relCells (fun n cs x ht => by
    obtain ⟨v0, v1, y0, y1, n, rfl, rfl, h0, h1⟩ := two_of Try.underlying97 (by kernel_rfl) relCells ht
    obtain ⟨pl, e2, -, k2⟩ := DataW.trod_int Try.underlying29 h0
    obtain ⟨kd, e4, -, k4⟩ := DataW.trod_int Try.underlying3 h1
    cases e2; cases e4
    exact ⟨⟨pl, kd⟩, rfl, wf_u64b k2⟩) h
theorem segs_of {w : World} {fuel : Nat} {v : Value} {x : DataW H × List MemPlace} (h : DataW.trod enc Try.prog w 0 (fun _ => true) true fuel 23 [v] = some x) :
    ∃ (a : Option Addr) (c : Nat) (l : List Seg), v = .slice a l.length c ∧ RdG w a l ∧ (∀ s ∈ l, Rd w s.ba s.bytes.length (u8v s.bytes) ∧ u64B s.place ∧ u64B s.size ∧ s.bytes.length ≤ maxLen) ∧ l.length ≤ maxLen ∧ l.length ≤ c :=
  rows_of segC_len (by decide) Try.underlying23 segCells (fun n cs x ht => by
    obtain ⟨v0, v1, v2, v3, y0, y1, y2, y3, n, rfl, rfl, h0, h1, h2, h3⟩ := four_of Try.underlying40 (by kernel_rfl) segCells ht
    obtain ⟨pl, e0, -, k0⟩ := DataW.trod_int Try.underlying29 h0
    obtain ⟨sz, e1, -, k1⟩ := DataW.trod_int Try.underlying29 h1
    obtain ⟨fl, e2, -, k2⟩ := DataW.trod_int Try.underlying3 h2
    obtain ⟨a, c, l, rfl, hr, hm, hc⟩ := bytes_of h3
    cases e0; cases e1; cases e2
    exact ⟨⟨pl, sz, fl, l, a, c⟩, rfl, hr, wf_u64b k0, wf_u64b k1, hm⟩) h
theorem max_lt {n : Nat} (h : n ≤ maxLen) : n < 9223372036854775808 := by unfold maxLen at h; omega
/-- an object as it comes in -/
theorem open_obj {w : World} {base : Nat} {r : Reach} {v : Value} {d : DataW H} {p : List MemPlace}
    (hv : Value.okWide Try.prog w r base 28 v) (h : DataW.Trod enc Try.prog w 0 (fun _ => true) true 28 v d p) :
    ∃ o : Ob, v = objV o ∧ RdOb w o ∧ FitOb o ∧ o.needs.length ≤ o.nc := by
  obtain ⟨cs, rfl, hsz⟩ := okWide_struct Try.underlying28 hv
  obtain ⟨fuel, hf⟩ := h
  obtain ⟨v0, v1, v2, v3, v4, v5, v6, y0, y1, y2, y3, y4, y5, y6, n, hcs, -, h0, h1, h2, h3, h4, h5, h6⟩ := seven_of Try.underlying28 (by kernel_rfl) objCells hf
  obtain ⟨nm, e0, -, k0⟩ := DataW.trod_string Try.underlying9 h0
  obtain ⟨a1, c1, l1, rfl, r1, q1, m1, z1⟩ := texts_of h1
  obtain ⟨a2, c2, l2, rfl, r2, q2, m2, z2⟩ := segs_of h2
  obtain ⟨a3, c3, l3, rfl, r3, q3, m3, z3⟩ := syms_of h3
  obtain ⟨a4, c4, l4, rfl, r4, q4, m4, z4⟩ := rels_of h4
  obtain ⟨a5, c5, l5, rfl, r5, m5, z5⟩ := ints_of h5
  obtain ⟨a6, c6, l6, rfl, r6, m6, z6⟩ := ints_of h6
  cases e0
  refine ⟨⟨nm.data.toList, l1, l2, l3, l4, l5, l6, a1, c1, a2, c2, a3, c3, a4, c4, a5, c5, a6, c6⟩, ?_, ⟨r1, r2, fun s hs => (q2 s hs).1, r3, r4, r5, r6⟩,
    ⟨max_lt (by simpa using k0), fun n hn => max_lt (q1 n hn), max_lt m1, max_lt m2, fun s hs => ⟨(q2 s hs).2.1, (q2 s hs).2.2.1, max_lt (q2 s hs).2.2.2⟩, max_lt m3, fun s hs => ⟨(q3 s hs).1, (q3 s hs).2.1, max_lt (q3 s hs).2.2.1, max_lt (q3 s hs).2.2.2⟩, max_lt m4, q4, max_lt m5, max_lt m6⟩, z1⟩
  simp only [Value.cells] at hcs
  unfold objV objC
  rw [bytes_eta]
  simp only []
  rw [← hcs]
/-- bytes as they come in -/
theorem open_bytes {W : World} {v : Value} {d : DataW H} {p : List MemPlace} {a0 : Option Addr} {len cap : Nat} (hv : v = .slice a0 len cap)
    (h : DataW.Trod enc Try.prog W 0 (fun _ => true) true 38 v d p) :
    ∃ l : List UInt8, l.length = len ∧ Rd W a0 l.length (u8v l) ∧ len ≤ maxLen ∧ len ≤ cap := by
  subst hv
  obtain ⟨fuel, hf⟩ := h
  have hf' : DataW.trod enc Try.prog W 0 (fun _ => true) true fuel 38 [.slice a0 len cap] = some _ := hf
  obtain ⟨a, c, l, e, hr, hm, hc⟩ := bytes_of hf'
  cases e
  exact ⟨l, rfl, hr, hm, hc⟩
/-- all arguments read behind a call that makes new blocks alone as they read before -/
theorem trodAll_stays {P : Program} (hl : laidOutB P = true) {W W' : World} (hb : Below W.heap.size W W') {sp : Nat → Bool} :
    ∀ {ts : List TypeId} {vs : List Value} {ds : List (DataW H)} {p : List MemPlace}, (ts.all fun t => P.readableRec t && decide (t < P.types.size)) = true →
      DataW.TrodAll enc P W 0 (fun _ => true) true ts vs ds p → (∀ x ∈ p, x.block < W.heap.size) → (∀ x ∈ p, sp x.block = true) → DataW.TrodAll enc P W' 0 sp true ts vs ds p
  | [], [], [], _, _, h, _, _ => h
  | t :: ts, v :: vs, d :: ds, _, hr, h, hlt, hs => by
    obtain ⟨p, q, h1, h2, rfl⟩ := h
    simp only [List.all_cons, Bool.and_eq_true, decide_eq_true_eq] at hr
    exact ⟨p, q, WideElems.Trod_stays hl hr.1.1 hr.1.2 h1 (fun x hx => hb.same (hlt x (List.mem_append_left _ hx))) (fun x hx => hs x (List.mem_append_left _ hx)),
      trodAll_stays hl hb hr.2 h2 (fun x hx => hlt x (List.mem_append_right _ hx)) (fun x hx => hs x (List.mem_append_right _ hx)), rfl⟩
  | [], [], _ :: _, _, _, h, _, _ => h.elim
  | [], _ :: _, _, _, _, h, _, _ => h.elim
  | _ :: _, [], _, _, _, h, _, _ => h.elim
  | _ :: _, _ :: _, [], _, _, h, _, _ => h.elim

end
end Go.Proofs.Yteaididdamihlaa.Ce

namespace Go.Proofs.Yteaididdamihlaa.Ce
set_option linter.unusedVariables false
set_option linter.unusedSimpArgs false
open Go.Joins Go.ChangeShapes Go.WideShapes Go.ChangeAt Go.RowKit Go.Deep

theorem zlt : (0 : Nat) < 9223372036854775808 := by decide
theorem check0 (o : Ob) : checkF o = 0 ↔ namesB o = true ∧ countsB o = true ∧ segsB 0 o.segs = true ∧ o.syms.all (symB o.segs) = true ∧ relsB o.segs o.syms 0 o.rels = true ∧ o.init.all (fnB o.syms) = true ∧ o.fini.all (fnB o.syms) = true := by
  unfold checkF
  cases namesB o <;> cases countsB o <;> cases segsB 0 o.segs <;> cases o.syms.all (symB o.segs) <;> cases relsB o.segs o.syms 0 o.rels <;> cases o.init.all (fnB o.syms) <;> cases o.fini.all (fnB o.syms) <;> decide
theorem counts_iff (o : Ob) : countsB o = true ↔ o.needs.length ≤ 8 ∧ o.segs.length ≤ 6 ∧ o.syms.length ≤ 40 ∧ o.rels.length ≤ 60 ∧ o.init.length ≤ 8 ∧ o.fini.length ≤ 8 := by
  unfold countsB
  simp only [Bool.and_eq_true, decide_eq_true_eq]
theorem less_all (o : Ob) (h : checkF o = 0) : checkF ⟨o.name, o.needs, o.segs, o.syms, [], o.init, o.fini, o.na, o.nc, o.ga, o.gc, o.sa, o.sc, none, 0, o.ia, o.ic, o.fa, o.fc⟩ = 0 ∧ checkF ⟨o.name, o.needs, o.segs, o.syms, [], [], [], o.na, o.nc, o.ga, o.gc, o.sa, o.sc, none, 0, none, 0, none, 0⟩ = 0 ∧ checkF ⟨o.name, o.needs, o.segs, [], [], [], [], o.na, o.nc, o.ga, o.gc, none, 0, none, 0, none, 0, none, 0⟩ = 0 ∧ checkF ⟨o.name, o.needs, [], [], [], [], [], o.na, o.nc, none, 0, none, 0, none, 0, none, 0, none, 0⟩ = 0 ∧ checkF ⟨o.name, [], [], [], [], [], [], none, 0, none, 0, none, 0, none, 0, none, 0, none, 0⟩ = 0 := by
  obtain ⟨h1, h2, h3, h4, h5, h6, h7⟩ := (check0 o).1 h
  obtain ⟨c1, c2, c3, c4, c5, c6⟩ := (counts_iff o).1 h2
  have hn : nameB o.name = true := by
    unfold namesB at h1
    rw [Bool.and_eq_true] at h1
    exact h1.1
  exact ⟨(check0 _).2 ⟨h1, ((counts_iff _).2 ⟨c1, c2, c3, by simp, c5, c6⟩), h3, h4, rfl, h6, h7⟩,
    (check0 _).2 ⟨h1, ((counts_iff _).2 ⟨c1, c2, c3, by simp, by simp, by simp⟩), h3, h4, rfl, rfl, rfl⟩,
    (check0 _).2 ⟨h1, ((counts_iff _).2 ⟨c1, c2, by simp, by simp, by simp, by simp⟩), h3, rfl, rfl, rfl, rfl⟩,
    (check0 _).2 ⟨h1, ((counts_iff _).2 ⟨c1, by simp, by simp, by simp, by simp, by simp⟩), rfl, rfl, rfl, rfl, rfl⟩,
    (check0 _).2 ⟨(by show (nameB o.name && needsB o.name [] 0) = true; rw [hn]; rfl), ((counts_iff _).2 ⟨by simp, by simp, by simp, by simp, by simp, by simp⟩), rfl, rfl, rfl, rfl, rfl⟩⟩
end Go.Proofs.Yteaididdamihlaa.Ce

namespace Go.Proofs.Yteaididdamihlaa.Ce
set_option linter.unusedVariables false
set_option linter.unusedSimpArgs false

/-- a reader that stays where something is wrong; of more bytes it reads the same; of fewer it reads the same, or tells that they end -/
structure Good {α : Type} (one : St → α × St) : Prop where
  stay : ∀ s, s.wrong ≠ 0 → (one s).2 = s
  ext : ∀ p t, (one ⟨p, 0⟩).2.wrong = 0 → one ⟨p ++ t, 0⟩ = ((one ⟨p, 0⟩).1, ⟨(one ⟨p, 0⟩).2.rest ++ t, 0⟩)
  cut : ∀ p t, (one ⟨p ++ t, 0⟩).2.wrong = 0 → (one ⟨p, 0⟩).2.wrong = 0 ∨ (one ⟨p, 0⟩).2.wrong = 101
theorem good_take (n : Nat) : Good (takeP n) := by
  refine ⟨fun s h => ?_, fun p t h => ?_, fun p t h => ?_⟩
  · unfold takeP; rw [if_neg h]
  · unfold takeP at h ⊢
    simp only [if_true] at h ⊢
    by_cases hl : p.length < n
    · rw [if_pos hl] at h; cases h
    · rw [if_neg hl] at ⊢
      rw [if_neg (by rw [List.length_append]; omega)]
      rw [List.take_append_of_le_length (by omega), List.drop_append_of_le_length (by omega)]
  · unfold takeP
    simp only [if_true]
    by_cases hl : p.length < n
    · rw [if_pos hl]; exact Or.inr rfl
    · rw [if_neg hl]; exact Or.inl rfl
def bindP {α β γ : Type} (A : St → α × St) (B : α → St → β × St) (f : α → β → γ) (s : St) : γ × St := (f (A s).1 (B (A s).1 (A s).2).1, (B (A s).1 (A s).2).2)
theorem st_eta (s : St) (h : s.wrong = 0) : s = ⟨s.rest, 0⟩ := by cases s; cases h; rfl
theorem good_bind {α β γ : Type} {A : St → α × St} {B : α → St → β × St} {f : α → β → γ} (hA : Good A) (hB : ∀ a, Good (B a)) : Good (bindP A B f) := by
  refine ⟨fun s h => ?_, fun p t h => ?_, fun p t h => ?_⟩
  · show (B (A s).1 (A s).2).2 = s
    rw [hA.stay s h]
    exact (hB _).stay s h
  · have h0 : (A ⟨p, 0⟩).2.wrong = 0 := by
      refine Decidable.byContradiction fun hn => ?_
      have h1 : (B (A ⟨p, 0⟩).1 (A ⟨p, 0⟩).2).2.wrong = 0 := h
      rw [(hB _).stay _ hn] at h1
      exact hn h1
    have e1 := hA.ext p t h0
    have e2 := st_eta _ h0
    have h1 : (B (A ⟨p, 0⟩).1 ⟨(A ⟨p, 0⟩).2.rest, 0⟩).2.wrong = 0 := by rw [← e2]; exact h
    have e3 := (hB (A ⟨p, 0⟩).1).ext _ t h1
    unfold bindP
    rw [e1]
    simp only []
    rw [e3, ← e2]
  · have h0 : (A ⟨p ++ t, 0⟩).2.wrong = 0 := by
      refine Decidable.byContradiction fun hn => ?_
      have h1 : (B (A ⟨p ++ t, 0⟩).1 (A ⟨p ++ t, 0⟩).2).2.wrong = 0 := h
      rw [(hB _).stay _ hn] at h1
      exact hn h1
    rcases hA.cut p t h0 with h2 | h2
    · have e1 := hA.ext p t h2
      have e2 := st_eta _ h2
      have h3 : (B (A ⟨p ++ t, 0⟩).1 (A ⟨p ++ t, 0⟩).2).2.wrong = 0 := h
      rw [e1] at h3
      have h4 := (hB (A ⟨p, 0⟩).1).cut _ t h3
      rw [← e2] at h4
      exact h4
    · right
      show (B (A ⟨p, 0⟩).1 (A ⟨p, 0⟩).2).2.wrong = 101
      rw [(hB _).stay _ (by rw [h2]; decide)]
      exact h2
theorem good_congr {α : Type} {one two : St → α × St} (h : Good two) (hs : ∀ s, s.wrong ≠ 0 → (one s).2 = s) (he : ∀ p, one ⟨p, 0⟩ = two ⟨p, 0⟩) : Good one :=
  ⟨hs, fun p t h0 => by rw [he] at h0 ⊢; rw [he]; exact h.ext p t h0, fun p t h0 => by rw [he] at h0 ⊢; exact h.cut p t h0⟩
theorem good_pure {α : Type} (x : α) : Good (fun s => (x, s)) := ⟨fun _ _ => rfl, fun _ _ _ => rfl, fun _ _ _ => Or.inl rfl⟩
theorem good_num (n : Nat) : Good (numP n) := good_bind (A := takeP n) (B := fun l s => ((), s)) (f := fun l _ => ofB (nats l)) (good_take n) (fun _ => good_pure ())
theorem good_text : Good textP := good_bind (A := numP 1) (B := fun n => takeP n) (f := fun _ y => y) (good_num 1) (fun n => good_take n)
theorem good_list {α : Type} {one : St → α × St} (h : Good one) (n : Nat) : Good (listP one n) := by
  induction n with
  | zero => exact good_pure []
  | succ n ih =>
    refine good_congr (good_bind (A := one) (B := fun _ => listP one n) (f := List.cons) h (fun _ => ih)) (fun s hs => ?_) (fun p => ?_)
    · rw [listP_wrong one (n + 1) s hs]
    · show (if (0 : Int) = 0 then _ else _) = _
      rw [if_pos rfl]
      rfl
theorem good_listH {α : Type} {one : St → α × St} (h : Good one) : Good (listH one) := good_bind (A := numP 2) (B := fun n => listP one n) (f := fun _ y => y) (good_num 2) (fun n => good_list h n)
theorem good_half : Good halfP := good_bind (A := numP 2) (B := fun l s => ((), s)) (f := fun n _ => (n : Int)) (good_num 2) (fun _ => good_pure ())
theorem good_rel : Good relP := good_bind (A := numP 4) (B := fun _ => numP 2) (f := fun x y => Rel.mk (x : Int) (y : Int)) (good_num 4) (fun _ => good_num 2)
theorem good_seg : Good segP :=
  good_bind (A := numP 4) (B := fun _ => bindP (numP 4) (fun _ => bindP (numP 1) (fun _ => bindP (numP 4) (fun d => takeP d) (fun _ y => y)) (fun c e => (c, e))) (fun b ce => (b, ce))) (f := fun a bce => ((a : Int), (bce.1 : Int), (bce.2.1 : Int), bce.2.2))
    (good_num 4) (fun _ => good_bind (good_num 4) (fun _ => good_bind (good_num 1) (fun _ => good_bind (good_num 4) (fun d => good_take d))))
def endS (d : Nat) (s : St) : Nat × St := (d, if s.wrong = 0 ∧ 1 < d then ⟨s.rest, 106⟩ else s)
theorem good_end (d : Nat) : Good (endS d) := by
  refine ⟨fun s h => ?_, fun p t h => ?_, fun p t h => ?_⟩
  · show (if s.wrong = 0 ∧ 1 < d then _ else s) = s
    rw [if_neg (fun q => h q.1)]
  · by_cases hd : 1 < d
    · have : (endS d ⟨p, 0⟩).2.wrong = 106 := by unfold endS; rw [if_pos ⟨rfl, hd⟩]
      rw [this] at h; cases h
    · unfold endS
      rw [if_neg (fun q => hd q.2), if_neg (fun q => hd q.2)]
  · by_cases hd : 1 < d
    · have : (endS d ⟨p ++ t, 0⟩).2.wrong = 106 := by unfold endS; rw [if_pos ⟨rfl, hd⟩]
      rw [this] at h; cases h
    · left
      unfold endS
      rw [if_neg (fun q => hd q.2)]
theorem good_sym : Good symP :=
  good_bind (A := textP) (B := fun _ => bindP textP (fun _ => bindP (numP 4) (fun _ => bindP (numP 4) (fun _ => bindP (numP 1) (fun _ => bindP (numP 1) (fun _ => bindP (numP 1) (fun _ => bindP (numP 1) (fun d => endS d) (fun _ y => y)) Prod.mk) Prod.mk) Prod.mk) Prod.mk) Prod.mk) Prod.mk)
    (f := fun n r => Sym.mk n r.1 (r.2.1 : Int) (r.2.2.1 : Int) (r.2.2.2.1 : Int) (r.2.2.2.2.1 : Int) (r.2.2.2.2.2.1 : Int) (decide ((r.2.2.2.2.2.2 : Int) = 1)))
    good_text (fun _ => good_bind good_text (fun _ => good_bind (good_num 4) (fun _ => good_bind (good_num 4) (fun _ => good_bind (good_num 1) (fun _ => good_bind (good_num 1) (fun _ => good_bind (good_num 1) (fun _ => good_bind (good_num 1) (fun d => good_end d))))))))
attribute [local irreducible] textP listH segP symP relP halfP numP takeP
def tail6 (s : St) : (List Int × List Int) × St := bindP (listH halfP) (fun _ => listH halfP) Prod.mk s
def tail5 (s : St) : (List Rel × List Int × List Int) × St := bindP (listH relP) (fun _ => tail6) Prod.mk s
def tail4 (s : St) : (List Sym × List Rel × List Int × List Int) × St := bindP (listH symP) (fun _ => tail5) Prod.mk s
def tail3 (s : St) : (List (Int × Int × Int × List UInt8) × List Sym × List Rel × List Int × List Int) × St := bindP (listH segP) (fun _ => tail4) Prod.mk s
def tail2 (s : St) : (List (List UInt8) × List (Int × Int × Int × List UInt8) × List Sym × List Rel × List Int × List Int) × St := bindP (listH textP) (fun _ => tail3) Prod.mk s
def tail1 (s : St) : (List UInt8 × List (List UInt8) × List (Int × Int × Int × List UInt8) × List Sym × List Rel × List Int × List Int) × St := bindP textP (fun _ => tail2) Prod.mk s
def mkC (r : List UInt8 × List (List UInt8) × List (Int × Int × Int × List UInt8) × List Sym × List Rel × List Int × List Int) : Core := ⟨r.1, r.2.1, r.2.2.1, r.2.2.2.1, r.2.2.2.2.1, r.2.2.2.2.2.1, r.2.2.2.2.2.2⟩
def tailP (s : St) : Core × St := bindP (takeP 5) (fun _ => tail1) (fun _ r => mkC r) s
theorem good_tail6 : Good tail6 := good_bind (good_listH good_half) (fun _ => good_listH good_half)
theorem good_tail5 : Good tail5 := good_bind (good_listH good_rel) (fun _ => good_tail6)
theorem good_tail4 : Good tail4 := good_bind (good_listH good_sym) (fun _ => good_tail5)
theorem good_tail3 : Good tail3 := good_bind (good_listH good_seg) (fun _ => good_tail4)
theorem good_tail2 : Good tail2 := good_bind (good_listH good_text) (fun _ => good_tail3)
theorem good_tail1 : Good tail1 := good_bind good_text (fun _ => good_tail2)
theorem good_tail : Good tailP := good_bind (f := fun _ r => mkC r) (good_take 5) (fun _ => good_tail1)
theorem obj_tail (s : St) : objP s = tailP (magicP s) := by
  unfold objP tailP tail1 mkC tail2 tail3 tail4 tail5 tail6 bindP
  simp only []
attribute [local irreducible] tailP
theorem wrong_zero {r : Core × St} (hw : wrongP r = 0) : r.2.wrong = 0 ∧ r.2.rest = [] := by
  unfold wrongP at hw
  by_cases hp : r.2.wrong = 0 ∧ 0 < r.2.rest.length
  · rw [if_pos hp] at hw; exact absurd hw (by decide)
  · rw [if_neg hp] at hw
    exact ⟨hw, List.eq_nil_of_length_eq_zero (by
      have : ¬ 0 < r.2.rest.length := fun q => hp ⟨hw, q⟩
      omega)⟩
/-- what is parsed has the bytes that it begins with, and was read to its end -/
theorem parse_ok {b : List UInt8} (h : (parseF b).2 = 0) : (b.take 5 == magicL) = true ∧ (tailP ⟨b, 0⟩).2.wrong = 0 ∧ (tailP ⟨b, 0⟩).2.rest = [] ∧ checkC (tailP ⟨b, 0⟩).1 = 0 ∧ (parseF b).1 = (tailP ⟨b, 0⟩).1 := by
  have hm : (b.take 5 == magicL) = true := by
    refine Decidable.byContradiction fun hn => ?_
    have e : magicP ⟨b, 0⟩ = ⟨b, 100⟩ := by unfold magicP; rw [if_neg hn]
    have e2 : (tailP ⟨b, 100⟩).2 = ⟨b, 100⟩ := good_tail.stay _ (show (100 : Int) ≠ 0 by decide)
    have hw : wrongP (objP ⟨b, 0⟩) = 100 := by
      unfold wrongP
      rw [obj_tail, e, e2]
      rw [if_neg (fun q => absurd q.1 (show ¬ (100 : Int) = 0 by decide))]
    unfold parseF parseR at h
    rw [hw] at h
    rw [if_neg (by decide)] at h
    exact absurd h (by decide)
  have e : objP ⟨b, 0⟩ = tailP ⟨b, 0⟩ := by rw [obj_tail]; unfold magicP; rw [if_pos hm]
  have hw : wrongP (tailP ⟨b, 0⟩) = 0 := by
    refine Decidable.byContradiction fun hn => ?_
    unfold parseF parseR at h
    rw [e, if_neg hn] at h
    exact hn h
  have h12 : (tailP ⟨b, 0⟩).2.wrong = 0 ∧ (tailP ⟨b, 0⟩).2.rest = [] := wrong_zero hw
  have h1 := h12.1
  have h2 := h12.2
  have hck : checkC (tailP ⟨b, 0⟩).1 = 0 := by
    refine Decidable.byContradiction fun hn => ?_
    unfold parseF parseR at h
    rw [e, if_pos hw, if_neg hn] at h
    exact hn h
  refine ⟨hm, h1, h2, hck, ?_⟩
  unfold parseF parseR
  rw [e, if_pos hw, if_pos hck]
theorem parse_more {b : List UInt8} (h : (parseF b).2 = 0) (x : UInt8) : (parseF (b ++ [x])).2 = 102 := by
  obtain ⟨hm, h1, h2, -, -⟩ := parse_ok h
  have hl : 5 ≤ b.length := by
    have h3 := congrArg List.length (beq_iff_eq.1 hm)
    rw [List.length_take] at h3
    have h4 : magicL.length = 5 := rfl
    omega
  have hm2 : ((b ++ [x]).take 5 == magicL) = true := by rw [List.take_append_of_le_length hl]; exact hm
  have e : objP ⟨b ++ [x], 0⟩ = tailP ⟨b ++ [x], 0⟩ := by rw [obj_tail]; unfold magicP; rw [if_pos hm2]
  have e2 := good_tail.ext b [x] h1
  have hw : wrongP (tailP ⟨b ++ [x], 0⟩) = 102 := by
    unfold wrongP
    rw [e2]
    rw [if_pos ⟨rfl, by rw [h2]; simp⟩]
  unfold parseF parseR
  rw [e, hw, if_neg (by decide)]
theorem parse_less {b : List UInt8} (h : (parseF b).2 = 0) (n : Nat) (hn : n < b.length) : (parseF (b.take n)).2 = if n < 5 then 100 else 101 := by
  obtain ⟨hm, h1, h2, -, -⟩ := parse_ok h
  by_cases h5 : n < 5
  · rw [if_pos h5]
    have hm2 : ¬ ((b.take n).take 5 == magicL) = true := fun q => by
      have h3 := congrArg List.length (beq_iff_eq.1 q)
      rw [List.length_take, List.length_take] at h3
      have h4 : magicL.length = 5 := rfl
      omega
    have e : magicP ⟨b.take n, 0⟩ = ⟨b.take n, 100⟩ := by unfold magicP; rw [if_neg hm2]
    have e2 : (tailP ⟨b.take n, 100⟩).2 = ⟨b.take n, 100⟩ := good_tail.stay _ (show (100 : Int) ≠ 0 by decide)
    have hw : wrongP (objP ⟨b.take n, 0⟩) = 100 := by
      unfold wrongP
      rw [obj_tail, e, e2, if_neg (fun q => absurd q.1 (show ¬ (100 : Int) = 0 by decide))]
    unfold parseF parseR
    rw [hw, if_neg (by decide)]
  · rw [if_neg h5]
    have hm2 : ((b.take n).take 5 == magicL) = true := by rw [List.take_take, show min 5 n = 5 by omega]; exact hm
    have e : objP ⟨b.take n, 0⟩ = tailP ⟨b.take n, 0⟩ := by rw [obj_tail]; unfold magicP; rw [if_pos hm2]
    have hb : b.take n ++ b.drop n = b := List.take_append_drop n b
    have hc := good_tail.cut (b.take n) (b.drop n) (by rw [hb]; exact h1)
    have h101 : (tailP ⟨b.take n, 0⟩).2.wrong = 101 := by
      rcases hc with h0 | h0
      · have e2 := good_tail.ext (b.take n) (b.drop n) h0
        rw [hb] at e2
        rw [e2] at h2
        have h6 : b.drop n = [] := (List.append_eq_nil_iff.1 h2).2
        have h7 := congrArg List.length h6
        rw [List.length_drop] at h7
        simp at h7
        omega
      · exact h0
    have hw : wrongP (tailP ⟨b.take n, 0⟩) = 101 := by
      unfold wrongP
      rw [h101, if_neg (fun q => absurd q.1 (show ¬ (101 : Int) = 0 by decide))]
    unfold parseF parseR
    rw [e, hw, if_neg (by decide)]
end Go.Proofs.Yteaididdamihlaa.Ce

namespace Go.Proofs.Yteaididdamihlaa.Ce
set_option linter.unusedVariables false
set_option linter.unusedSimpArgs false

/-- a segment, and where the one ahead of it ends -/
theorem segs_at {f : Int} {l : List Seg} (h : segsB f l = true) : ∀ k (hk : k < l.length), (l[k].place % 256 = 0 ∧ 1 ≤ l[k].size ∧ l[k].size ≤ 2048 ∧ l[k].place + l[k].size ≤ 16384 ∧ 1 ≤ l[k].flags ∧ l[k].flags ≤ 5) ∧ (if hk0 : k = 0 then f ≤ l[k].place else upP ((l[k-1]'(by omega)).place + (l[k-1]'(by omega)).size) ≤ l[k].place) := by
  induction l generalizing f with
  | nil => intro k hk; simp at hk
  | cons s r ih =>
    simp only [segsB, Bool.and_eq_true] at h
    have h1 := h.1
    simp only [segB, Bool.and_eq_true, decide_eq_true_eq] at h1
    have ih' := ih h.2
    intro k hk
    rcases Nat.eq_zero_or_pos k with rfl | hp
    · refine ⟨?_, ?_⟩
      · show s.place % 256 = 0 ∧ 1 ≤ s.size ∧ s.size ≤ 2048 ∧ s.place + s.size ≤ 16384 ∧ 1 ≤ s.flags ∧ s.flags ≤ 5
        omega
      · rw [dif_pos rfl]
        show f ≤ s.place
        omega
    · obtain ⟨j, rfl⟩ : ∃ j, k = j + 1 := ⟨k - 1, by omega⟩
      have hj : j < r.length := by simpa using hk
      obtain ⟨g1, g2⟩ := ih' j hj
      refine ⟨by simpa using g1, ?_⟩
      rw [dif_neg (by omega)]
      rcases Nat.eq_zero_or_pos j with rfl | hjp
      · rw [dif_pos rfl] at g2
        simpa using g2
      · obtain ⟨i, rfl⟩ : ∃ i, j = i + 1 := ⟨j - 1, by omega⟩
        rw [dif_neg (by omega)] at g2
        simpa using g2
theorem segs_up {f : Int} {l : List Seg} (h : segsB f l = true) (j k : Nat) (hjk : j < k) (hk : k < l.length) : (l[j]'(by omega)).place + (l[j]'(by omega)).size ≤ l[k].place := by
  induction k with
  | zero => omega
  | succ k ih =>
    have g := (segs_at h (k + 1) hk).2
    rw [dif_neg (by omega)] at g
    have g : upP (l[k].place + l[k].size) ≤ l[k + 1].place := g
    unfold upP at g
    rcases Nat.lt_or_ge j k with h1 | h1
    · have h2 := ih h1 (by omega)
      have h3 := (segs_at h k (by omega)).1
      omega
    · obtain rfl : j = k := by omega
      omega
/-- the first segment that has some bytes is the one that has them -/
theorem at_write {l : List Seg} {x n : Int} (h : segsB 0 l = true) (hn : 0 < n) (hw : writeB l x n = true) : ∃ k : Nat, ∃ hk : k < l.length, atF l x n = (k : Int) ∧ (l[k].flags = 2 ∨ l[k].flags = 3) := by
  obtain ⟨s, hs, hp⟩ := List.any_eq_true.1 hw
  obtain ⟨k, hk, rfl⟩ := List.getElem_of_mem hs
  simp only [Bool.and_eq_true, decide_eq_true_eq] at hp
  refine ⟨k, hk, ?_, hp.1⟩
  refine firstI_some (p := fun s => hasB s x n) hk hp.2 (fun j hj => ?_)
  rw [Bool.eq_false_iff]
  intro hh
  have h1 := segs_up h j k hj hk
  have h2 := hp.2
  simp only [hasB, Bool.and_eq_true, decide_eq_true_eq] at hh h2
  omega
theorem rels_at {l : List Seg} {sy : List Sym} {f : Int} {r : List Rel} (h : relsB l sy f r = true) : ∀ k (hk : k < r.length), 0 ≤ r[k].sym ∧ r[k].sym < sy.length ∧ writeB l r[k].place (roomZ sy r[k].sym) = true := by
  induction r generalizing f with
  | nil => intro k hk; simp at hk
  | cons x r ih =>
    simp only [relsB, Bool.and_eq_true] at h
    have h1 := h.1
    simp only [relB, Bool.and_eq_true, decide_eq_true_eq] at h1
    intro k hk
    rcases Nat.eq_zero_or_pos k with rfl | hp
    · exact ⟨h1.2.1, h1.2.2.1, h1.2.2.2.2⟩
    · obtain ⟨j, rfl⟩ : ∃ j, k = j + 1 := ⟨k - 1, by omega⟩
      exact ih h.2 j (by simpa using hk)
theorem syms_at {l : List Seg} {s : Sym} (h : symB l s = true) (hd : s.defd = true) : 0 ≤ atF l s.place s.size := by
  unfold symB at h
  rw [if_pos hd] at h
  simp only [Bool.and_eq_true, decide_eq_true_eq] at h
  exact h.2.2.1
theorem parse_bad {b : List UInt8} (h : (parseF b).2 ≠ 0) : (parseF b).1 = emptyC := by
  unfold parseF parseR at h ⊢
  by_cases h1 : wrongP (objP ⟨b, 0⟩) = 0
  · rw [if_pos h1] at h ⊢
    by_cases h2 : checkC (objP ⟨b, 0⟩).1 = 0
    · rw [if_pos h2] at h; exact absurd rfl h
    · rw [if_neg h2]
  · rw [if_neg h1]
theorem parse_right {b : List UInt8} {o : Ob} (h : (parseF b).2 = 0) (ho : coreO o = (parseF b).1) : checkF o = 0 := by
  obtain ⟨-, -, -, h4, h5⟩ := parse_ok h
  rw [check_core, ho, h5, h4]
theorem and6 (f : Int) (h1 : 1 ≤ f) (h5 : f ≤ 5) : ¬ bits .and .i64 f 6 = 6 := by
  have : f = 1 ∨ f = 2 ∨ f = 3 ∨ f = 4 ∨ f = 5 := by omega
  rcases this with rfl | rfl | rfl | rfl | rfl <;> decide
theorem and2w (f : Int) (h : f = 2 ∨ f = 3) : ¬ bits .and .i64 f 2 = 0 := by
  rcases h with rfl | rfl <;> decide
end Go.Proofs.Yteaididdamihlaa.Ce

