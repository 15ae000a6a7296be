/- Merged: TmOa TmOb TmOc TmOd. -/
import Derived.Test.YteaididdamihlaaTmUn
import Derived.Test.YteaididdamihlaaTmPn
import Derived.Test.YteaididdamihlaaTmLd
import Derived.Test.YteaididdamihlaaTmX
import Derived.Test.YteaididdamihlaaTmY
import Derived.Test.YteaididdamihlaaTmZ
import Derived.Test.YteaididdamihlaaTmTg
namespace Go.Proofs.Yteaididdamihlaa
set_option linter.unusedVariables false
set_option linter.unusedSimpArgs false
open Go.Joins Go.ChangeShapes Go.WideShapes Go.ChangeAt Go.RowKit Go.Deep

/-- a call: what is done, where, how many, which number, which capability, which bytes -/
structure Opr where
  d : Int
  a : Nat
  n : Int
  w : Int
  c : Cp
  l : List Nat
  ba : Option Addr
  bc : Nat
def opC (o : Opr) : Array Value := #[.int .i64 o.d, .int .u64 (o.a : Int), .int .i64 o.n, .int .u64 o.w, .int .u64 o.c.b, .int .u64 o.c.t, .int .u64 o.c.a, .int .i64 o.c.p, .int .i64 o.c.y, .bool o.c.g, .slice o.ba o.l.length o.bc]
/-- it is one that can be, its bytes below N -/
structure FitO (W : World) (N : Nat) (o : Opr) : Prop where
  a : o.a < 18446744073709551616
  n0 : -9223372036854775808 ≤ o.n
  n1 : o.n < 9223372036854775808
  w0 : 0 ≤ o.w
  w1 : o.w < 18446744073709551616
  c : FitC o.c
  lb : ∀ b ∈ o.l, b < 256
  ll : o.l.length ≤ o.bc
  lm : o.l.length < 9223372036854775808
  rd : Rd W o.ba o.l.length (u8s o.l)
  bn : 0 < o.l.length → ∀ g off, o.ba = some ⟨g, off, none⟩ → g < N
theorem FitO.below {W W' : World} {N : Nat} {o : Opr} (h : FitO W N o) (hb : Below N W W') : FitO W' N o :=
  ⟨h.a, h.n0, h.n1, h.w0, h.w1, h.c, h.lb, h.ll, h.lm, ⟨h.rd.1, fun hn => by
    obtain ⟨b, off, e, hl, hc⟩ := h.rd.2 hn
    have hbl := h.bn hn b off e
    exact ⟨b, off, e, Nat.lt_of_lt_of_le hl hb.size, fun k hk => (World.cell?_of_block (hb.block b hbl)).trans (hc k hk)⟩⟩, h.bn⟩
theorem FitO.mono {W : World} {N N' : Nat} {o : Opr} (h : FitO W N o) (hN : N ≤ N') : FitO W N' o :=
  ⟨h.a, h.n0, h.n1, h.w0, h.w1, h.c, h.lb, h.ll, h.lm, h.rd, fun hn g off e => Nat.lt_of_lt_of_le (h.bn hn g off e) hN⟩
def stepM (m : Mm) (o : Opr) : Mm :=
  if o.d = 1 then (mapF m o.a o.n).1 else if o.d = 2 then (unmapF m o.a o.n).1 else if o.d = 3 then (storeF m o.a o.n o.w).1
  else if o.d = 4 then (if rightB o.c then (storeC m o.a o.c).1 else m) else if o.d = 5 then (if 600 < o.l.length then m else (putF m o.a o.l).1) else m
/-- both memories, in blocks of their own, from N on -/
def Two (W : World) (N M R : Nat) (m r : Mm) : Prop := ∃ F G, MemAt W M F m ∧ RmAt W R G r ∧ (∀ b, F b → ¬ G b) ∧ (∀ b, F b → N ≤ b) ∧ (∀ b, G b → N ≤ b) ∧ N ≤ W.heap.size
theorem MemAt.lt {W : World} {M : Nat} {F : Nat → Prop} {m : Mm} (h : MemAt W M F m) : ∀ b, F b → b < W.heap.size := by
  obtain ⟨B, D, pb, h⟩ := h
  exact h.lt
theorem two_below {W W' : World} {N M R : Nat} {m r : Mm} (h : Two W N M R m r) (hb : Below W.heap.size W W') : Two W' N M R m r ∧ Below N W W' := by
  obtain ⟨F, G, h1, h2, h3, h4, h5, h6⟩ := h
  exact ⟨⟨F, G, h1.below hb, h2.below hb, h3, h4, h5, Nat.le_trans h6 hb.size⟩, hb.mono h6⟩
theorem kp_belowN {W W' : World} {N : Nat} {F : Nat → Prop} (hk : KP W.heap.size F W W') (hF : ∀ b, F b → N ≤ b) (hN : N ≤ W.heap.size) : Below N W W' :=
  hk.to_below hN (fun b hb hf => by have := hF b hf; omega)
/-- one contract of the program's behind one of the document's -/
theorem two_step {W0 W1 W2 : World} {N M R : Nat} {F G F1 : Nat → Prop} {r m1 r1 : Mm} (hR0 : RmAt W0 R G r) (hd : ∀ b, F b → ¬ G b) (hF : ∀ b, F b → N ≤ b) (hG : ∀ b, G b → N ≤ b) (hN : N ≤ W0.heap.size)
    (hM1 : MemAt W1 M F1 m1) (hs : ∀ b, F1 b → F b ∨ W0.heap.size ≤ b) (hk1 : KP W0.heap.size F W0 W1) (hR2 : RmAt W2 R (FN G W1 W2) r1) (hk2 : KP W1.heap.size G W1 W2) : Two W2 N M R m1 r1 ∧ Below N W0 W2 := by
  have hG1 : ∀ b, G b → b < W0.heap.size := hR0.lt
  have hF1 : ∀ b, F1 b → b < W1.heap.size := hM1.lt
  have h01 := hk1.size
  have hdis : ∀ b, F1 b → ¬ G b := fun b hb hg => by
    rcases hs b hb with h | h
    · exact hd b h hg
    · have := hG1 b hg; omega
  refine ⟨⟨F1, FN G W1 W2, hM1.kp hk2 (Nat.le_refl _) hdis, hR2, fun b hb hg => ?_, fun b hb => ?_, fun b hb => ?_, Nat.le_trans hN (Nat.le_trans h01 hk2.size)⟩, (kp_belowN hk1 hF hN).trans (kp_belowN hk2 hG (by omega))⟩
  · rcases hg with h | h
    · exact hdis b hb h
    · have := hF1 b hb; omega
  · rcases hs b hb with h | h
    · exact hF b h
    · omega
  · rcases hb with h | h
    · exact hG b h
    · omega
theorem step_rd {W0 W1 : World} {F : Nat → Prop} {a : Option Addr} {n N : Nat} {xs : List Value} (hk : KP W0.heap.size F W0 W1) (hF : ∀ b, F b → N ≤ b) (hr : Rd W0 a n xs) (hb : 0 < n → ∀ g off, a = some ⟨g, off, none⟩ → g < N) : Rd W1 a n xs :=
  hk.rd hr (fun b off h0 e => ⟨by obtain ⟨b', off', e', hl, _⟩ := hr.2 h0; rw [e] at e'; cases e'; exact hl, fun hf => by have := hF b hf; have := hb h0 b off e; omega⟩)
end Go.Proofs.Yteaididdamihlaa

namespace Go.Proofs.Yteaididdamihlaa
set_option linter.unusedVariables false
set_option linter.unusedSimpArgs false
open Go.Joins Go.ChangeShapes Go.WideShapes Go.ChangeAt Go.RowKit Go.Deep

end Go.Proofs.Yteaididdamihlaa

namespace Go.Proofs.Yteaididdamihlaa
set_option linter.unusedVariables false
set_option linter.unusedSimpArgs false
open Go.Joins Go.ChangeShapes Go.WideShapes Go.ChangeAt Go.RowKit Go.Deep

end Go.Proofs.Yteaididdamihlaa

namespace Go.Proofs.Yteaididdamihlaa
set_option linter.unusedVariables false
set_option linter.unusedSimpArgs false
open Go.Joins Go.ChangeShapes Go.WideShapes Go.ChangeAt Go.RowKit Go.Deep

/-- a row of calls, below N -/
structure RdP (W : World) (N : Nat) (a : Option Addr) (l : List Opr) : Prop where
  fit : ∀ o ∈ l, FitO W N o
  rd : 0 < l.length → ∃ b off, a = some ⟨b, off, none⟩ ∧ b < N ∧ b < W.heap.size ∧ ∀ i (h : i < l.length) j, j < 11 → W.cell? ⟨b, off + i * 11 + j, none⟩ = (opC l[i])[j]?
theorem RdP.below {W W' : World} {N : Nat} {a : Option Addr} {l : List Opr} (h : RdP W N a l) (hb : Below N W W') : RdP W' N a l :=
  ⟨fun o ho => (h.fit o ho).below hb, fun h0 => by
    obtain ⟨b, off, e, h1, h2, h3⟩ := h.rd h0
    exact ⟨b, off, e, h1, Nat.lt_of_lt_of_le h2 hb.size, fun i hi j hj => (World.cell?_of_block (hb.block b h1)).trans (h3 i hi j hj)⟩⟩
theorem RdP.mono {W : World} {N N' : Nat} {a : Option Addr} {l : List Opr} (h : RdP W N a l) (hN : N ≤ N') : RdP W N' a l :=
  ⟨fun o ho => (h.fit o ho).mono hN, fun h0 => by
    obtain ⟨b, off, e, h1, h2, h3⟩ := h.rd h0
    exact ⟨b, off, e, Nat.lt_of_lt_of_le h1 hN, h2, h3⟩⟩
/-- what all calls make of an empty memory -/
def madeM (b : Int) (l : List Opr) : Mm := l.foldl stepM (emptyM b.toNat)
def noM (b : Int) (n : Nat) : Bool := badB b || decide (60 < n)
/-- one memory, in blocks from N on -/
def Solo (W : World) (N M : Nat) (m : Mm) : Prop := ∃ F, MemAt W M F m ∧ (∀ q, F q → N ≤ q) ∧ N ≤ W.heap.size
theorem Two.solo {W : World} {N M R : Nat} {m r : Mm} (h : Two W N M R m r) : Solo W N M m := by
  obtain ⟨F, G, h1, -, -, h4, -, h6⟩ := h
  exact ⟨F, h1, h4, h6⟩
theorem two_new {W W1 W2 : World} {M R : Nat} {m r : Mm} (h1 : MemAt W1 M (fun q => W.heap.size ≤ q ∧ q < W1.heap.size) m) (hb1 : Below W.heap.size W W1) (h2 : RmAt W2 R (fun q => W1.heap.size ≤ q ∧ q < W2.heap.size) r) (hb2 : Below W1.heap.size W1 W2) : Two W2 W.heap.size M R m r ∧ Below W.heap.size W W2 :=
  ⟨⟨_, _, h1.below hb2, h2, fun b h h' => by have := h.2; have := h'.1; omega, fun b h => h.1, fun b h => by have := h.1; have := hb1.size; omega, Nat.le_trans hb1.size hb2.size⟩, hb1.trans (hb2.mono hb1.size)⟩
end Go.Proofs.Yteaididdamihlaa

