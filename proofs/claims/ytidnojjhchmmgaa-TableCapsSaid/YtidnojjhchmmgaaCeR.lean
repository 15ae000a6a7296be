/- The reader of bytes: what it has, and contracts of take and of its numbers. -/
import Derived.Test.YtidnojjhchmmgaaCeA
import Derived.Test.YtidnojjhchmmgaaWordD
import Derived.Laws.BytesString
import Derived.LoopTactic
import Derived.Outline
import Derived.OpenShut
import Derived.Lib.SmallJoins
import Derived.Deep.RegionHeld3
import Derived.Deep.RegionWith
import Derived.Laws.NewBlocks
namespace Go.Proofs.Ytidnojjhchmmgaa
set_option linter.unusedVariables false
set_option linter.unusedSimpArgs false
open Go.Joins Go.ChangeShapes Go.WideShapes Go.ChangeAt Go.RowKit

/-- what lay below n, but blocks of S, lies as it lay -/
structure KP (n : Nat) (S : Nat → Prop) (W W' : World) : Prop where
  os : W'.os = W.os
  tape : W'.tape = W.tape
  output : W'.output = W.output
  size : W.heap.size ≤ W'.heap.size
  block : ∀ b, b < n → ¬ S b → W'.heap[b]? = W.heap[b]?
theorem KP.refl (n : Nat) (S : Nat → Prop) (W : World) : KP n S W W := ⟨rfl, rfl, rfl, Nat.le_refl _, fun _ _ _ => rfl⟩
theorem KP.trans {n : Nat} {S : Nat → Prop} {A B C : World} (h : KP n S A B) (k : KP n S B C) : KP n S A C := ⟨k.os.trans h.os, k.tape.trans h.tape, k.output.trans h.output, Nat.le_trans h.size k.size, fun b h1 h2 => (k.block b h1 h2).trans (h.block b h1 h2)⟩
theorem KP.mono {n m : Nat} {S T : Nat → Prop} {A B : World} (h : KP n S A B) (hm : m ≤ n) (hS : ∀ b, b < m → S b → T b) : KP m T A B := ⟨h.os, h.tape, h.output, h.size, fun b h1 h2 => h.block b (by omega) (fun q => h2 (hS b h1 q))⟩
theorem KP.grown {n : Nat} {S : Nat → Prop} {A B C : World} {row : Option Nat} (h : KP n S A B) (hg : B.grownBy C row) (hn : n ≤ B.heap.size) (hr : ∀ r, row = some r → n ≤ r ∨ S r) : KP n S A C :=
  h.trans ⟨hg.os, hg.tape, hg.output, hg.size, fun b h1 h2 => hg.block b (by omega) (fun e => by rcases hr b e.symm with h3 | h3; omega; exact h2 h3)⟩
theorem KP.below {n : Nat} {S : Nat → Prop} {A B C : World} {m : Nat} (h : KP n S A B) (hb : Below m B C) (hn : n ≤ m) : KP n S A C :=
  h.trans ⟨hb.os, hb.tape, hb.output, hb.size, fun b h1 _ => hb.block b (by omega)⟩
theorem KP.set {n : Nat} {S : Nat → Prop} {A B : World} (h : KP n S A B) (p : Addr) (hp : n ≤ p.block ∨ S p.block) (u : Value) : KP n S A (B.setCell p u) :=
  h.trans ⟨((Below.refl 0 B).setCell (p := p) (Nat.zero_le _) u).os, ((Below.refl 0 B).setCell (p := p) (Nat.zero_le _) u).tape, ((Below.refl 0 B).setCell (p := p) (Nat.zero_le _) u).output, ((Below.refl 0 B).setCell (p := p) (Nat.zero_le _) u).size, fun b h1 h2 => Below.heap_setCell _ _ _ _ (fun e => by rcases hp with h3 | h3; omega; exact h2 (e ▸ h3))⟩
theorem KP.set1 (W : World) (R j : Nat) (u : Value) : KP W.heap.size (· = R) W (W.setCell ⟨R, j, none⟩ u) := (KP.refl W.heap.size (· = R) W).set ⟨R, j, none⟩ (Or.inr rfl) u
theorem KP.drew {n : Nat} {S : Nat → Prop} {A B : World} (h : KP n S A B) : KP n S A B.drew := h.trans ⟨rfl, rfl, rfl, Nat.le_refl _, fun _ _ _ => rfl⟩
theorem KP.alloc {n : Nat} {S : Nat → Prop} {A B : World} (h : KP n S A B) (o : Obj) (hn : n ≤ B.heap.size) : KP n S A (B.alloc o) := h.below (bAlloc (Below.refl _ _) o) hn
theorem KP.cell {n : Nat} {S : Nat → Prop} {A B : World} (h : KP n S A B) {b off : Nat} {v : Value} (hb : b < n) (hx : ¬ S b) (hc : A.cell? ⟨b, off, none⟩ = some v) : B.cell? ⟨b, off, none⟩ = some v := (World.cell?_of_block (h.block b hb hx)).trans hc
theorem KP.frozen {n : Nat} {S : Nat → Prop} {A B : World} (h : KP n S A B) {b off : Nat} {q : Bool} (hb : b < n) (hx : ¬ S b) (hc : A.frozen? ⟨b, off, none⟩ = q) : B.frozen? ⟨b, off, none⟩ = q := (World.frozen?_of_block (h.block b hb hx)).trans hc
theorem KP.rd {n : Nat} {S : Nat → Prop} {A B : World} (h : KP n S A B) {a : Option Addr} {m : Nat} {xs : List Value} (hr : Rd A a m xs) (hx : ∀ b off, 0 < m → a = some ⟨b, off, none⟩ → b < n ∧ ¬ S b) : Rd B a m xs :=
  ⟨hr.1, fun hn => by
    obtain ⟨b, off, e, hl, hc⟩ := hr.2 hn
    obtain ⟨h1, h2⟩ := hx b off hn e
    exact ⟨b, off, e, Nat.lt_of_lt_of_le hl h.size, fun k hk => (World.cell?_of_block (h.block b h1 h2)).trans (hc k hk)⟩⟩
/-- all that lay before, the world apart -/
theorem KP.to_below {n : Nat} {S : Nat → Prop} {A B : World} (h : KP n S A B) {m : Nat} (hm : m ≤ n) (hS : ∀ b, b < m → ¬ S b) : Below m A B := ⟨h.os, h.tape, h.output, h.size, fun b hb => h.block b (by omega) (hS b hb)⟩
/-- a block that holds these cells -/
def BoxN (W : World) (B : Nat) (cs : Array Value) : Prop := ∃ t, W.heap[B]? = some (.cells cs t (0, 0))
theorem BoxN.cell {W : World} {B : Nat} {cs : Array Value} (h : BoxN W B cs) (j : Nat) : W.cell? ⟨B, j, none⟩ = cs[j]? := by
  obtain ⟨t, h⟩ := h
  simp [World.cell?, h]
theorem BoxN.frozen {W : World} {B : Nat} {cs : Array Value} (h : BoxN W B cs) (j : Nat) : W.frozen? ⟨B, j, none⟩ = false := by
  obtain ⟨t, h⟩ := h
  simp [World.frozen?, h]
theorem BoxN.lt {W : World} {B : Nat} {cs : Array Value} (h : BoxN W B cs) : B < W.heap.size := by
  obtain ⟨t, h⟩ := h
  exact (Array.getElem?_eq_some_iff.1 h).1
theorem BoxN.new (W : World) (cs : Array Value) (t : TypeId) : BoxN (W.alloc (.cells cs t)) W.heap.size cs := ⟨t, heap_alloc_new W _⟩
theorem BoxN.below {W W' : World} {B : Nat} {cs : Array Value} {m : Nat} (h : BoxN W B cs) (hb : Below m W W') (hm : B < m) : BoxN W' B cs := by
  obtain ⟨t, h⟩ := h
  exact ⟨t, (hb.block B hm).trans h⟩
theorem BoxN.kp {W W' : World} {B n : Nat} {S : Nat → Prop} {cs : Array Value} (h : BoxN W B cs) (hk : KP n S W W') (hB : B < n) (hS : ¬ S B) : BoxN W' B cs := by
  obtain ⟨t, h⟩ := h
  exact ⟨t, (hk.block B hB hS).trans h⟩
theorem BoxN.set {W : World} {B : Nat} {cs : Array Value} (h : BoxN W B cs) (j : Nat) (x : Value) : BoxN (W.setCell ⟨B, j, none⟩ x) B (cs.setIfInBounds j x) := by
  obtain ⟨t, h⟩ := h
  refine ⟨t, ?_⟩
  obtain ⟨hlt, hk⟩ := Array.getElem?_eq_some_iff.1 h
  show (W.heap.modify B _)[B]? = _
  rw [Array.getElem?_eq_getElem (by rw [Array.size_modify]; exact hlt), Array.getElem_modify_self, hk]
  rfl

/-! What the reader reads: plain mathematics. -/
structure St where
  rest : List UInt8
  wrong : Int
def takeP (n : Nat) (s : St) : List UInt8 × St := if s.wrong = 0 then (if s.rest.length < n then ([], ⟨s.rest, 101⟩) else (s.rest.take n, ⟨s.rest.drop n, 0⟩)) else ([], s)
def nats (l : List UInt8) : List Nat := l.map UInt8.toNat
def numP (n : Nat) (s : St) : Nat × St := (ofB (nats (takeP n s).1), (takeP n s).2)
def textP (s : St) : List UInt8 × St := takeP (numP 1 s).1 (numP 1 s).2
theorem nats_lt (l : List UInt8) : ∀ b ∈ nats l, b < 256 := fun b hb => by
  obtain ⟨x, -, rfl⟩ := List.mem_map.1 hb
  exact UInt8.toNat_lt x
theorem u8v_nats (l : List UInt8) : u8v l = u8s (nats l) := by simp [u8v, u8s, nats]
theorem takeP_len (n : Nat) (s : St) : (takeP n s).1.length ≤ n := by
  unfold takeP
  split
  · split
    · simp
    · simp; omega
  · simp
theorem takeP_rest (n : Nat) (s : St) : (takeP n s).2.rest.length ≤ s.rest.length := by
  unfold takeP
  split
  · split <;> simp
  · simp
theorem numP_lt (n : Nat) (s : St) : (numP n s).1 < 2 ^ (8 * n) := by
  unfold numP ofB
  have h1 := ofN_lt ((nats (takeP n s).1).take 8) fun b hb => nats_lt _ b (List.mem_of_mem_take hb)
  have h2 : ((nats (takeP n s).1).take 8).length ≤ n := by
    have := takeP_len n s
    rw [List.length_take]
    simp only [nats, List.length_map]
    omega
  exact Nat.lt_of_lt_of_le h1 (Nat.pow_le_pow_right (by decide) (by omega))
/-- bytes that lie below base -/
def BytesIn (base : Nat) (W : World) (a : Option Addr) (l : List UInt8) : Prop := Rd W a l.length (u8v l) ∧ (0 < l.length → ∃ b off, a = some ⟨b, off, none⟩ ∧ b < base)
theorem BytesIn.nil (base : Nat) (W : World) (a : Option Addr) : BytesIn base W a [] := ⟨Rd.nil _ _, fun h => absurd h (by simp)⟩
theorem BytesIn.kp {base n : Nat} {S : Nat → Prop} {W W' : World} {a : Option Addr} {l : List UInt8} (h : BytesIn base W a l) (hk : KP n S W W') (hn : base ≤ n) (hS : ∀ b, b < base → ¬ S b) : BytesIn base W' a l :=
  ⟨hk.rd h.1 fun b off h0 e => by
    obtain ⟨b', off', e', hl⟩ := h.2 h0
    rw [e] at e'; cases e'
    exact ⟨by omega, hS _ hl⟩, h.2⟩
theorem BytesIn.take {base : Nat} {W : World} {a : Option Addr} {l : List UInt8} (h : BytesIn base W a l) (n : Nat) : BytesIn base W a (l.take n) := by
  refine ⟨⟨u8v_len _, fun h0 => ?_⟩, fun h0 => h.2 (by rw [List.length_take] at h0; omega)⟩
  rw [List.length_take] at h0
  obtain ⟨b, off, e, hl, hc⟩ := h.1.2 (by omega)
  refine ⟨b, off, e, hl, fun k hk => ?_⟩
  rw [List.length_take] at hk
  rw [hc k (by omega)]
  simp [u8v, List.getElem?_take, show k < n by omega]
def tailA (a : Option Addr) (n c : Nat) : Option Addr := if c = n then a else a.map fun x => x.add (n * 1)
theorem BytesIn.drop {base : Nat} {W : World} {a : Option Addr} {l : List UInt8} (h : BytesIn base W a l) (n c : Nat) (hc : l.length ≤ c) : BytesIn base W (tailA a n c) (l.drop n) := by
  have key : 0 < (l.drop n).length → ∃ b off, a = some ⟨b, off, none⟩ ∧ tailA a n c = some ⟨b, off + n, none⟩ := fun h0 => by
    rw [List.length_drop] at h0
    obtain ⟨b, off, e, hl, -⟩ := h.1.2 (by omega)
    refine ⟨b, off, e, ?_⟩
    unfold tailA
    rw [if_neg (by omega), e, Nat.mul_one]
    simp [Addr.add]
  refine ⟨⟨u8v_len _, fun h0 => ?_⟩, fun h0 => ?_⟩
  · obtain ⟨b, off, e, et⟩ := key h0
    obtain ⟨b', off', e', hl, hq⟩ := h.1.2 (by rw [List.length_drop] at h0; omega)
    rw [e] at e'; cases e'
    refine ⟨b, off + n, et, hl, fun k hk => ?_⟩
    rw [List.length_drop] at hk
    rw [Nat.add_assoc, hq (n + k) (by omega)]
    simp [u8v]
  · obtain ⟨b, off, e, et⟩ := key h0
    obtain ⟨b', off', e', hl⟩ := h.2 (by rw [List.length_drop] at h0; omega)
    rw [e] at e'; cases e'
    exact ⟨b, off + n, et, hl⟩
/-- the reader R, made at base or behind it, has this state -/
structure RdAt (base R : Nat) (W : World) (s : St) : Prop where
  lo : base ≤ R
  box : ∃ a c, BoxN W R #[.slice a s.rest.length c, .int .i64 s.wrong] ∧ s.rest.length ≤ c ∧ BytesIn base W a s.rest
  len : s.rest.length < 9223372036854775808
theorem RdAt.kp {base R n : Nat} {S : Nat → Prop} {W W' : World} {s : St} (h : RdAt base R W s) (hk : KP n S W W') (hR : R < n) (hS : ∀ b, b ≤ R → ¬ S b) : RdAt base R W' s := by
  obtain ⟨lo, ⟨a, c, h1, h2, h3⟩, hl⟩ := h
  exact ⟨lo, ⟨a, c, h1.kp hk hR (hS R (Nat.le_refl _)), h2, h3.kp hk (by omega) (fun b hb => hS b (by omega))⟩, hl⟩
theorem RdAt.below {base R : Nat} {W W' : World} {s : St} (h : RdAt base R W s) (hb : Below W.heap.size W W') : RdAt base R W' s := by
  obtain ⟨a, c, h1, -, -⟩ := h.box
  exact h.kp (n := W.heap.size) (S := fun _ => False) ⟨hb.os, hb.tape, hb.output, hb.size, fun b h1 _ => hb.block b h1⟩ h1.lt (fun _ _ => id)
theorem RdAt.lt {base R : Nat} {W : World} {s : St} (h : RdAt base R W s) : R < W.heap.size := by
  obtain ⟨a, c, h1, -, -⟩ := h.box
  exact h1.lt
theorem KP.of_below {W W' : World} (S : Nat → Prop) (hb : Below W.heap.size W W') : KP W.heap.size S W W' := ⟨hb.os, hb.tape, hb.output, hb.size, fun b h1 _ => hb.block b h1⟩
theorem RdAt.err {base R : Nat} {W : World} {s : St} (h : RdAt base R W s) (e : Int) : RdAt base R (W.setCell ⟨R, 1, none⟩ (.int .i64 e)) ⟨s.rest, e⟩ := by
  obtain ⟨lo, ⟨a, c, h1, h2, h3⟩, hl⟩ := h
  have hk : KP W.heap.size (· = R) W (W.setCell ⟨R, 1, none⟩ (.int .i64 e)) := KP.set1 _ _ _ _
  exact ⟨lo, ⟨a, c, h1.set 1 _, h2, h3.kp hk (by have := h1.lt; omega) (fun b hb q => by have : b = R := q; omega)⟩, hl⟩
theorem RdAt.moved {base R : Nat} {W : World} {a0 a : Option Addr} {n c : Nat} {e : Int} (lo : base ≤ R) (h1 : BoxN W R #[.slice a0 n c, .int .i64 e]) (l' : List UInt8) (h3 : BytesIn base W a l') (c' : Nat) (h2 : l'.length ≤ c') (hl : l'.length < 9223372036854775808) :
    RdAt base R (W.setCell ⟨R, 0, none⟩ (.slice a l'.length c')) ⟨l', e⟩ := by
  have hk : KP W.heap.size (· = R) W (W.setCell ⟨R, 0, none⟩ (.slice a l'.length c')) := KP.set1 _ _ _ _
  exact ⟨lo, ⟨a, c', h1.set 0 _, h2, h3.kp hk (by have := h1.lt; omega) (fun b hb q => by have : b = R := q; omega)⟩, hl⟩
end Go.Proofs.Ytidnojjhchmmgaa
