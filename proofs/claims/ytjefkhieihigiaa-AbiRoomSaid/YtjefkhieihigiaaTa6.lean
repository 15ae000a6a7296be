/- Merged: TmTg Tm1 TmSo. -/
import Derived.Test.YtjefkhieihigiaaSo5
import Derived.Test.YtjefkhieihigiaaTa5
namespace Go.Proofs.Ytjefkhieihigiaa
set_option linter.unusedVariables false
set_option linter.unusedSimpArgs false
open Go.Joins Go.ChangeShapes Go.WideShapes Go.ChangeAt Go.RowKit Go.Deep

/-- a page's granules with a tag, of the first k -/
def tagL (mks : List Nat) (p k : Nat) : List Nat := ((List.range k).filter fun i => decide (8 * p + i ∈ mks)).map fun i => 8 * p + i
theorem tagL_succ (mks : List Nat) (p k : Nat) : tagL mks p (k + 1) = tagL mks p k ++ if 8 * p + k ∈ mks then [8 * p + k] else [] := by
  unfold tagL
  rw [List.range_succ, List.filter_append, List.map_append]
  congr 1
  by_cases h : 8 * p + k ∈ mks
  · simp [h]
  · simp [h]
theorem tagL_len (mks : List Nat) (p k : Nat) : (tagL mks p k).length ≤ k := by
  unfold tagL
  rw [List.length_map]
  exact Nat.le_trans (List.length_filter_le _ _) (by simp)
theorem mem_tagL {mks : List Nat} {p k x : Nat} : x ∈ tagL mks p k ↔ x ∈ mks ∧ 8 * p ≤ x ∧ x < 8 * p + k := by
  unfold tagL
  simp only [List.mem_map, List.mem_filter, List.mem_range, decide_eq_true_eq]
  constructor
  · rintro ⟨i, ⟨h1, h2⟩, rfl⟩
    exact ⟨h2, by omega, by omega⟩
  · rintro ⟨h1, h2, h3⟩
    exact ⟨x - 8 * p, ⟨by omega, by rwa [show 8 * p + (x - 8 * p) = x by omega]⟩, by omega⟩
def tagsTo (mks pgs : List Nat) (j : Nat) : List Nat := (pgs.take j).flatMap fun p => tagL mks p 8
theorem tagsTo_succ (mks pgs : List Nat) (j : Nat) (h : j < pgs.length) : tagsTo mks pgs (j + 1) = tagsTo mks pgs j ++ tagL mks pgs[j] 8 := by
  unfold tagsTo
  rw [List.take_succ_eq_append_getElem h, List.flatMap_append]
  simp
theorem tagsTo_len (mks pgs : List Nat) (j : Nat) : (tagsTo mks pgs j).length ≤ 8 * j := by
  induction j with
  | zero => simp [tagsTo]
  | succ j ih =>
    by_cases h : j < pgs.length
    · rw [tagsTo_succ _ _ _ h, List.length_append]
      have := tagL_len mks pgs[j] 8
      omega
    · have : tagsTo mks pgs (j + 1) = tagsTo mks pgs j := by
        unfold tagsTo
        rw [List.take_of_length_le (by omega), List.take_of_length_le (by omega)]
      rw [this]
      omega
theorem rise_tagL (mks : List Nat) (p k : Nat) : Rise (tagL mks p k) := by
  unfold tagL
  refine List.pairwise_map.2 (List.Pairwise.filter _ ?_)
  exact List.Pairwise.imp (fun h => by omega) List.pairwise_lt_range
theorem rise_tags (mks : List Nat) : ∀ (l : List Nat), Rise l → Rise (l.flatMap fun p => tagL mks p 8) := by
  intro l
  induction l with
  | nil => intro _; exact List.Pairwise.nil
  | cons p r ih =>
    intro h
    have hp := List.pairwise_cons.1 h
    rw [List.flatMap_cons]
    refine List.pairwise_append.2 ⟨rise_tagL _ _ _, ih hp.2, fun x hx y hy => ?_⟩
    obtain ⟨q, hq, hy⟩ := List.mem_flatMap.1 hy
    have h1 := mem_tagL.1 hx
    have h2 := mem_tagL.1 hy
    have h3 := hp.1 q hq
    omega
theorem tags_all {m : Mm} (h : Okm m) : tagsTo m.mks m.pgs m.pgs.length = m.mks := by
  unfold tagsTo
  rw [List.take_length]
  refine rise_ext (rise_tags _ _ h.pr) h.mr fun x => ?_
  rw [List.mem_flatMap]
  constructor
  · rintro ⟨p, _, hx⟩
    exact (mem_tagL.1 hx).1
  · intro hx
    exact ⟨x / 8, h.ml x hx, mem_tagL.2 ⟨hx, by omega, by omega⟩⟩
end Go.Proofs.Ytjefkhieihigiaa

namespace Go.Proofs.Ytjefkhieihigiaa
set_option linter.unusedVariables false
set_option linter.unusedSimpArgs false
open Go.Joins Go.ChangeShapes Go.WideShapes Go.ChangeAt Go.RowKit Go.Deep

/-- a call: what is done, where, how many, which number, which capability, which bytes -/
structure Opr where
  d : Int
  a : Nat
  n : Int
  w : Int
  c : Cp
  l : List Nat
  ba : Option Addr
  bc : Nat
def opC (o : Opr) : Array Value := #[.int .i64 o.d, .int .u64 (o.a : Int), .int .i64 o.n, .int .u64 o.w, .int .u64 o.c.b, .int .u64 o.c.t, .int .u64 o.c.a, .int .i64 o.c.p, .int .i64 o.c.y, .bool o.c.g, .slice o.ba o.l.length o.bc]
/-- it is one that can be, its bytes below N -/
structure FitO (W : World) (N : Nat) (o : Opr) : Prop where
  a : o.a < 18446744073709551616
  n0 : -9223372036854775808 ≤ o.n
  n1 : o.n < 9223372036854775808
  w0 : 0 ≤ o.w
  w1 : o.w < 18446744073709551616
  c : FitC o.c
  lb : ∀ b ∈ o.l, b < 256
  ll : o.l.length ≤ o.bc
  lm : o.l.length < 9223372036854775808
  rd : Rd W o.ba o.l.length (u8s o.l)
  bn : 0 < o.l.length → ∀ g off, o.ba = some ⟨g, off, none⟩ → g < N
theorem FitO.below {W W' : World} {N : Nat} {o : Opr} (h : FitO W N o) (hb : Below N W W') : FitO W' N o :=
  ⟨h.a, h.n0, h.n1, h.w0, h.w1, h.c, h.lb, h.ll, h.lm, ⟨h.rd.1, fun hn => by
    obtain ⟨b, off, e, hl, hc⟩ := h.rd.2 hn
    have hbl := h.bn hn b off e
    exact ⟨b, off, e, Nat.lt_of_lt_of_le hl hb.size, fun k hk => (World.cell?_of_block (hb.block b hbl)).trans (hc k hk)⟩⟩, h.bn⟩
theorem FitO.mono {W : World} {N N' : Nat} {o : Opr} (h : FitO W N o) (hN : N ≤ N') : FitO W N' o :=
  ⟨h.a, h.n0, h.n1, h.w0, h.w1, h.c, h.lb, h.ll, h.lm, h.rd, fun hn g off e => Nat.lt_of_lt_of_le (h.bn hn g off e) hN⟩
def stepM (m : Mm) (o : Opr) : Mm :=
  if o.d = 1 then (mapF m o.a o.n).1 else if o.d = 2 then (unmapF m o.a o.n).1 else if o.d = 3 then (storeF m o.a o.n o.w).1
  else if o.d = 4 then (if rightB o.c then (storeC m o.a o.c).1 else m) else if o.d = 5 then (if 600 < o.l.length then m else (putF m o.a o.l).1) else m
/-- both memories, in blocks of their own, from N on -/
def Two (W : World) (N M R : Nat) (m r : Mm) : Prop := ∃ F G, MemAt W M F m ∧ RmAt W R G r ∧ (∀ b, F b → ¬ G b) ∧ (∀ b, F b → N ≤ b) ∧ (∀ b, G b → N ≤ b) ∧ N ≤ W.heap.size
theorem MemAt.lt {W : World} {M : Nat} {F : Nat → Prop} {m : Mm} (h : MemAt W M F m) : ∀ b, F b → b < W.heap.size := by
  obtain ⟨B, D, pb, h⟩ := h
  exact h.lt
theorem two_below {W W' : World} {N M R : Nat} {m r : Mm} (h : Two W N M R m r) (hb : Below W.heap.size W W') : Two W' N M R m r ∧ Below N W W' := by
  obtain ⟨F, G, h1, h2, h3, h4, h5, h6⟩ := h
  exact ⟨⟨F, G, h1.below hb, h2.below hb, h3, h4, h5, Nat.le_trans h6 hb.size⟩, hb.mono h6⟩
theorem kp_belowN {W W' : World} {N : Nat} {F : Nat → Prop} (hk : KP W.heap.size F W W') (hF : ∀ b, F b → N ≤ b) (hN : N ≤ W.heap.size) : Below N W W' :=
  hk.to_below hN (fun b hb hf => by have := hF b hf; omega)
/-- one contract of the program's behind one of the document's -/
theorem two_step {W0 W1 W2 : World} {N M R : Nat} {F G F1 : Nat → Prop} {r m1 r1 : Mm} (hR0 : RmAt W0 R G r) (hd : ∀ b, F b → ¬ G b) (hF : ∀ b, F b → N ≤ b) (hG : ∀ b, G b → N ≤ b) (hN : N ≤ W0.heap.size)
    (hM1 : MemAt W1 M F1 m1) (hs : ∀ b, F1 b → F b ∨ W0.heap.size ≤ b) (hk1 : KP W0.heap.size F W0 W1) (hR2 : RmAt W2 R (FN G W1 W2) r1) (hk2 : KP W1.heap.size G W1 W2) : Two W2 N M R m1 r1 ∧ Below N W0 W2 := by
  have hG1 : ∀ b, G b → b < W0.heap.size := hR0.lt
  have hF1 : ∀ b, F1 b → b < W1.heap.size := hM1.lt
  have h01 := hk1.size
  have hdis : ∀ b, F1 b → ¬ G b := fun b hb hg => by
    rcases hs b hb with h | h
    · exact hd b h hg
    · have := hG1 b hg; omega
  refine ⟨⟨F1, FN G W1 W2, hM1.kp hk2 (Nat.le_refl _) hdis, hR2, fun b hb hg => ?_, fun b hb => ?_, fun b hb => ?_, Nat.le_trans hN (Nat.le_trans h01 hk2.size)⟩, (kp_belowN hk1 hF hN).trans (kp_belowN hk2 hG (by omega))⟩
  · rcases hg with h | h
    · exact hdis b hb h
    · have := hF1 b hb; omega
  · rcases hs b hb with h | h
    · exact hF b h
    · omega
  · rcases hb with h | h
    · exact hG b h
    · omega
theorem step_rd {W0 W1 : World} {F : Nat → Prop} {a : Option Addr} {n N : Nat} {xs : List Value} (hk : KP W0.heap.size F W0 W1) (hF : ∀ b, F b → N ≤ b) (hr : Rd W0 a n xs) (hb : 0 < n → ∀ g off, a = some ⟨g, off, none⟩ → g < N) : Rd W1 a n xs :=
  hk.rd hr (fun b off h0 e => ⟨by obtain ⟨b', off', e', hl, _⟩ := hr.2 h0; rw [e] at e'; cases e'; exact hl, fun hf => by have := hF b hf; have := hb h0 b off e; omega⟩)
end Go.Proofs.Ytjefkhieihigiaa

namespace Go.Proofs.Ytjefkhieihigiaa
set_option linter.unusedVariables false
set_option linter.unusedSimpArgs false
open Go.Joins Go.ChangeShapes Go.WideShapes Go.ChangeAt Go.RowKit Go.Deep

end Go.Proofs.Ytjefkhieihigiaa

namespace Go.Proofs.Ytjefkhieihigiaa
set_option linter.unusedVariables false
set_option linter.unusedSimpArgs false
open Go.Joins Go.ChangeShapes Go.WideShapes Go.ChangeAt Go.RowKit Go.Deep

end Go.Proofs.Ytjefkhieihigiaa

namespace Go.Proofs.Ytjefkhieihigiaa
set_option linter.unusedVariables false
set_option linter.unusedSimpArgs false
open Go.Joins Go.ChangeShapes Go.WideShapes Go.ChangeAt Go.RowKit Go.Deep

/-- a row of calls, below N -/
structure RdP (W : World) (N : Nat) (a : Option Addr) (l : List Opr) : Prop where
  fit : ∀ o ∈ l, FitO W N o
  rd : 0 < l.length → ∃ b off, a = some ⟨b, off, none⟩ ∧ b < N ∧ b < W.heap.size ∧ ∀ i (h : i < l.length) j, j < 11 → W.cell? ⟨b, off + i * 11 + j, none⟩ = (opC l[i])[j]?
theorem RdP.below {W W' : World} {N : Nat} {a : Option Addr} {l : List Opr} (h : RdP W N a l) (hb : Below N W W') : RdP W' N a l :=
  ⟨fun o ho => (h.fit o ho).below hb, fun h0 => by
    obtain ⟨b, off, e, h1, h2, h3⟩ := h.rd h0
    exact ⟨b, off, e, h1, Nat.lt_of_lt_of_le h2 hb.size, fun i hi j hj => (World.cell?_of_block (hb.block b h1)).trans (h3 i hi j hj)⟩⟩
theorem RdP.mono {W : World} {N N' : Nat} {a : Option Addr} {l : List Opr} (h : RdP W N a l) (hN : N ≤ N') : RdP W N' a l :=
  ⟨fun o ho => (h.fit o ho).mono hN, fun h0 => by
    obtain ⟨b, off, e, h1, h2, h3⟩ := h.rd h0
    exact ⟨b, off, e, Nat.lt_of_lt_of_le h1 hN, h2, h3⟩⟩
/-- what all calls make of an empty memory -/
def madeM (b : Int) (l : List Opr) : Mm := l.foldl stepM (emptyM b.toNat)
def noM (b : Int) (n : Nat) : Bool := badB b || decide (60 < n)
/-- one memory, in blocks from N on -/
def Solo (W : World) (N M : Nat) (m : Mm) : Prop := ∃ F, MemAt W M F m ∧ (∀ q, F q → N ≤ q) ∧ N ≤ W.heap.size
theorem Two.solo {W : World} {N M R : Nat} {m r : Mm} (h : Two W N M R m r) : Solo W N M m := by
  obtain ⟨F, G, h1, -, -, h4, -, h6⟩ := h
  exact ⟨F, h1, h4, h6⟩
theorem two_new {W W1 W2 : World} {M R : Nat} {m r : Mm} (h1 : MemAt W1 M (fun q => W.heap.size ≤ q ∧ q < W1.heap.size) m) (hb1 : Below W.heap.size W W1) (h2 : RmAt W2 R (fun q => W1.heap.size ≤ q ∧ q < W2.heap.size) r) (hb2 : Below W1.heap.size W1 W2) : Two W2 W.heap.size M R m r ∧ Below W.heap.size W W2 :=
  ⟨⟨_, _, h1.below hb2, h2, fun b h h' => by have := h.2; have := h'.1; omega, fun b h => h.1, fun b h => by have := h.1; have := hb1.size; omega, Nat.le_trans hb1.size hb2.size⟩, hb1.trans (hb2.mono hb1.size)⟩
end Go.Proofs.Ytjefkhieihigiaa


namespace Go.Proofs.Ytjefkhieihigiaa
set_option linter.unusedVariables false
set_option linter.unusedSimpArgs false
open Go.Joins Go.ChangeShapes Go.WideShapes Go.ChangeAt Go.RowKit Go.Deep

/-- a memory in blocks F, all from N on -/
structure Own1 (W : World) (N : Nat) (F : Nat → Prop) (M : Nat) (m : Mm) : Prop where
  mem : MemAt W M F m
  ge : ∀ q, F q → N ≤ q
  sz : N ≤ W.heap.size
theorem Solo.own {W : World} {N M : Nat} {m : Mm} (h : Solo W N M m) : ∃ F, Own1 W N F M m := by
  obtain ⟨F, h1, h2, h3⟩ := h
  exact ⟨F, h1, h2, h3⟩
theorem Own1.ok {W : World} {N M : Nat} {F : Nat → Prop} {m : Mm} (h : Own1 W N F M m) : Okm m := by
  obtain ⟨⟨B, D, pb, h1⟩, -⟩ := h
  exact h1.ok
theorem Own1.lt {W : World} {N M : Nat} {F : Nat → Prop} {m : Mm} (h : Own1 W N F M m) : ∀ q, F q → q < W.heap.size := h.mem.lt
/-- from one world to the next: what is not F's stays; F takes new blocks alone -/
structure Moves (W W' : World) (F F' : Nat → Prop) : Prop where
  sub : ∀ b, F' b → F b ∨ W.heap.size ≤ b
  kp : KP W.heap.size F W W'
theorem Moves.of_below {W W' : World} (F : Nat → Prop) (hb : Below W.heap.size W W') : Moves W W' F F := ⟨fun b h => Or.inl h, KP.of_below F hb⟩
theorem Own1.below {W W' : World} {N M : Nat} {F : Nat → Prop} {m : Mm} (h : Own1 W N F M m) (hb : Below W.heap.size W W') : Own1 W' N F M m := ⟨h.mem.below hb, h.ge, Nat.le_trans h.sz hb.size⟩
theorem Moves.belowN {W W' : World} {N M : Nat} {F F' : Nat → Prop} {m : Mm} (h : Own1 W N F M m) (hm : Moves W W' F F') : Below N W W' := kp_belowN hm.kp h.ge h.sz
theorem own_step {W W' : World} {N M : Nat} {F F' : Nat → Prop} {m m' : Mm} (h : Own1 W N F M m) (h1 : MemAt W' M F' m') (hs : ∀ b, F' b → F b ∨ W.heap.size ≤ b) (hk : KP W.heap.size F W W') : Own1 W' N F' M m' ∧ Moves W W' F F' :=
  ⟨⟨h1, fun q hq => by
    rcases hs q hq with h2 | h2
    · exact h.ge q h2
    · have := h.sz; omega, Nat.le_trans h.sz hk.size⟩, hs, hk⟩
/-- another memory, beside it, stays -/
theorem Own1.beside {W W' : World} {N M : Nat} {F G G' : Nat → Prop} {m : Mm} (h : Own1 W N F M m) (hm : Moves W W' G G') (hd : ∀ b, F b → ¬ G b) : Own1 W' N F M m ∧ (∀ b, F b → ¬ G' b) :=
  ⟨⟨h.mem.kp hm.kp (Nat.le_refl _) hd, h.ge, Nat.le_trans h.sz hm.kp.size⟩, fun b hb hg => by
    rcases hm.sub b hg with h1 | h1
    · exact hd b hb h1
    · have := h.lt b hb; omega⟩
/-- a row that is not the memory's -/
def RdX (W : World) (F : Nat → Prop) (a : Option Addr) (n : Nat) (xs : List Value) : Prop := Rd W a n xs ∧ ∀ b off, 0 < n → a = some ⟨b, off, none⟩ → ¬ F b ∧ b < W.heap.size
theorem RdX.move {W W' : World} {F F' : Nat → Prop} {a : Option Addr} {n : Nat} {xs : List Value} (h : RdX W F a n xs) (hm : Moves W W' F F') : RdX W' F' a n xs :=
  ⟨hm.kp.rd h.1 (fun b off h0 e => ⟨(h.2 b off h0 e).2, (h.2 b off h0 e).1⟩), fun b off h0 e => by
    obtain ⟨h1, h2⟩ := h.2 b off h0 e
    refine ⟨fun hf => ?_, Nat.lt_of_lt_of_le h2 hm.kp.size⟩
    rcases hm.sub b hf with h3 | h3
    · exact h1 h3
    · omega⟩
/-- a new row -/
theorem RdX.new {W W' : World} {N M : Nat} {F : Nat → Prop} {m : Mm} {e : TypeId} {a : Option Addr} {n c : Nat} {xs : List Value} (h : Own1 W N F M m) (ho : W'.ownsRow W.heap.size e 1 (.slice a n c) n xs) : RdX W' F a n xs := by
  refine ⟨by have := own_rd ho; rwa [Nat.mul_one] at this, fun b off h0 e' => ?_⟩
  rcases ho.2 with ⟨_, h1⟩ | ⟨g, cap, cur, hv, hg, hb, r⟩
  · omega
  · cases hv
    cases e'
    exact ⟨fun hf => by have := h.lt _ hf; omega, (Array.getElem?_eq_some_iff.1 hb).1⟩
/-- a row of the caller's -/
theorem RdX.old {W : World} {N M : Nat} {F : Nat → Prop} {m : Mm} {a : Option Addr} {n : Nat} {xs : List Value} (h : Own1 W N F M m) (hr : Rd W a n xs) (hb : ∀ g off, a = some ⟨g, off, none⟩ → g < N) : RdX W F a n xs :=
  ⟨hr, fun b off h0 e => ⟨fun hf => by have := h.ge b hf; have := hb b off e; omega, Nat.lt_of_lt_of_le (hb b off e) h.sz⟩⟩
theorem snew_any (b : Int) (hb : badB b = false) (W : World) :
    Calls Try.prog 9 #[.int .i64 b] W fun e W' => ∃ M F, e = .returned (.tuple #[.pointer (some ⟨M, 0, none⟩), .int .i64 0]) ∧ Own1 W' W.heap.size F M (emptyM b.toNat) ∧ Below W.heap.size W W' := by
  refine (new_any b W).mono ?_
  rintro e W' (⟨h, _⟩ | ⟨_, M, rfl, h1, h2, h3⟩)
  · rw [hb] at h; cases h
  · exact ⟨M, _, rfl, ⟨h2, fun q hq => hq.1, h3.size⟩, h3⟩
theorem sbad_any (b : Int) (hb : badB b = true) (W : World) :
    Calls Try.prog 9 #[.int .i64 b] W fun e W' => e = .returned (.tuple #[.pointer none, .int .i64 1]) ∧ W = W' := by
  refine (new_any b W).mono ?_
  rintro e W' (⟨h, h2⟩ | ⟨h, _⟩)
  · exact h2
  · rw [hb] at h; cases h
theorem smap_any (W : World) (N M : Nat) (F : Nat → Prop) (m : Mm) (h : Own1 W N F M m) (f n : Int) (hf0 : 0 ≤ f) (hf1 : f < 18446744073709551616) (hn0 : -9223372036854775808 ≤ n) (hn1 : n < 9223372036854775808) :
    Calls Try.prog 23 #[.pointer (some ⟨M, 0, none⟩), .int .u64 f, .int .i64 n] W fun e W' => e = .returned (.int .i64 (mapF m f n).2) ∧ ∃ F', Own1 W' N F' M (mapF m f n).1 ∧ Moves W W' F F' := by
  refine (map_any W M F m h.mem f n hf0 hf1 hn0 hn1).mono ?_
  rintro e W' ⟨rfl, F', h4, h5, h6⟩
  exact ⟨rfl, F', own_step h h4 h5 h6⟩
theorem sstoreC_any (W : World) (N M : Nat) (F : Nat → Prop) (m : Mm) (h : Own1 W N F M m) (a : Nat) (c : Cp) (ha : a < 18446744073709551616) (hc : FitC c) :
    Calls Try.prog 58 #[.pointer (some ⟨M, 0, none⟩), .int .u64 (a : Int), .agg (capC c).toArray] W fun e W' => e = .returned (.int .i64 (storeC m a c).2) ∧ ∃ F', Own1 W' N F' M (storeC m a c).1 ∧ Moves W W' F F' := by
  refine (storeC_any W M F m h.mem a c ha hc).mono ?_
  rintro e W' ⟨rfl, h4, h6⟩
  exact ⟨rfl, F, own_step h h4 (fun b hb => Or.inl hb) h6⟩
theorem sput_any (W : World) (N M : Nat) (F : Nat → Prop) (m : Mm) (h : Own1 W N F M m) (x n c : Nat) (sa : Option Addr) (l : List Nat) (hx : x < 18446744073709551616) (hln : l.length = n) (hnc : n ≤ c) (hn : n < 9223372036854775808) (hbl : ∀ b ∈ l, b < 256) (hs : Rd W sa n (u8s l)) (hne : 0 < n → ∀ g off, sa = some ⟨g, off, none⟩ → ¬ F g) :
    Calls Try.prog 43 #[.pointer (some ⟨M, 0, none⟩), .int .u64 (x : Int), .slice sa n c] W fun e W' => e = .returned (.int .i64 (putF m x l).2) ∧ ∃ F', Own1 W' N F' M (putF m x l).1 ∧ Moves W W' F F' := by
  refine (putA_any W M F m h.mem x n c sa l hx hln hnc hn hbl hs hne).mono ?_
  rintro e W' ⟨rfl, h4, h6⟩
  exact ⟨rfl, F, own_step h h4 (fun b hb => Or.inl hb) h6⟩
theorem sloadC_any (W : World) (N M : Nat) (F : Nat → Prop) (m : Mm) (h : Own1 W N F M m) (a : Nat) (ha : a < 18446744073709551616) :
    Calls Try.prog 17 #[.pointer (some ⟨M, 0, none⟩), .int .u64 (a : Int)] W fun e W' => e = .returned (.tuple #[.agg (capC (loadC m a).1).toArray, .int .i64 (loadC m a).2]) ∧ Below W.heap.size W W' := by
  obtain ⟨⟨B, D, pb, h1⟩, h2, h3⟩ := h
  exact loadC_any W M B D pb F m h1 a ha
theorem sbytes_any (W : World) (N M : Nat) (F : Nat → Prop) (m : Mm) (h : Own1 W N F M m) (a : Nat) (n : Int) (ha : a < 18446744073709551616) (hn0 : -9223372036854775808 ≤ n) (hn1 : n < 9223372036854775808) :
    Calls Try.prog 16 #[.pointer (some ⟨M, 0, none⟩), .int .u64 (a : Int), .int .i64 n] W fun e W' => (∃ ra rc, e = .returned (.slice ra (bytesF m a n).length rc) ∧ W'.ownsRow W.heap.size 5 1 (.slice ra (bytesF m a n).length rc) (bytesF m a n).length (u8s (bytesF m a n))) ∧ Below W.heap.size W W' := by
  obtain ⟨⟨B, D, pb, h1⟩, h2, h3⟩ := h
  exact bytes_any W M B D pb F m h1 a n ha hn0 hn1
theorem spages_any (W : World) (N M : Nat) (F : Nat → Prop) (m : Mm) (h : Own1 W N F M m) :
    Calls Try.prog 11 #[.pointer (some ⟨M, 0, none⟩)] W fun e W' => ∃ (a : Option Addr) (c : Nat), e = .returned (.slice a m.pgs.length c) ∧ W'.ownsRow W.heap.size 22 1 (.slice a m.pgs.length c) m.pgs.length (u64s m.pgs) ∧ Below W.heap.size W W' := by
  obtain ⟨⟨B, D, pb, h1⟩, h2, h3⟩ := h
  exact pages_any W M B D pb F m h1
/-- a row of one's own, read later -/
theorem row_later {W W' : World} {B n c : Nat} {e : TypeId} {a : Option Addr} {xs : List Value} (h : W.ownsRow B e 1 (.slice a n c) n xs) (hb : Below W.heap.size W W') : Rd W' a n xs := by
  have := own_rd (own_kp2 h (KP.of_below (fun _ => False) hb) (fun _ _ => id))
  rwa [Nat.mul_one] at this
end Go.Proofs.Ytjefkhieihigiaa

