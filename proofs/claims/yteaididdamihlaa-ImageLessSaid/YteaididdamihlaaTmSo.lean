/- A memory in blocks of its own: each call's contract. -/
import Derived.Test.YteaididdamihlaaTm1
namespace Go.Proofs.Yteaididdamihlaa
set_option linter.unusedVariables false
set_option linter.unusedSimpArgs false
open Go.Joins Go.ChangeShapes Go.WideShapes Go.ChangeAt Go.RowKit Go.Deep

/-- a memory in blocks F, all from N on -/
structure Own1 (W : World) (N : Nat) (F : Nat → Prop) (M : Nat) (m : Mm) : Prop where
  mem : MemAt W M F m
  ge : ∀ q, F q → N ≤ q
  sz : N ≤ W.heap.size
theorem Solo.own {W : World} {N M : Nat} {m : Mm} (h : Solo W N M m) : ∃ F, Own1 W N F M m := by
  obtain ⟨F, h1, h2, h3⟩ := h
  exact ⟨F, h1, h2, h3⟩
theorem Own1.ok {W : World} {N M : Nat} {F : Nat → Prop} {m : Mm} (h : Own1 W N F M m) : Okm m := by
  obtain ⟨⟨B, D, pb, h1⟩, -⟩ := h
  exact h1.ok
theorem Own1.lt {W : World} {N M : Nat} {F : Nat → Prop} {m : Mm} (h : Own1 W N F M m) : ∀ q, F q → q < W.heap.size := h.mem.lt
/-- from one world to the next: what is not F's stays; F takes new blocks alone -/
structure Moves (W W' : World) (F F' : Nat → Prop) : Prop where
  sub : ∀ b, F' b → F b ∨ W.heap.size ≤ b
  kp : KP W.heap.size F W W'
theorem Moves.of_below {W W' : World} (F : Nat → Prop) (hb : Below W.heap.size W W') : Moves W W' F F := ⟨fun b h => Or.inl h, KP.of_below F hb⟩
theorem Own1.below {W W' : World} {N M : Nat} {F : Nat → Prop} {m : Mm} (h : Own1 W N F M m) (hb : Below W.heap.size W W') : Own1 W' N F M m := ⟨h.mem.below hb, h.ge, Nat.le_trans h.sz hb.size⟩
theorem Moves.belowN {W W' : World} {N M : Nat} {F F' : Nat → Prop} {m : Mm} (h : Own1 W N F M m) (hm : Moves W W' F F') : Below N W W' := kp_belowN hm.kp h.ge h.sz
theorem own_step {W W' : World} {N M : Nat} {F F' : Nat → Prop} {m m' : Mm} (h : Own1 W N F M m) (h1 : MemAt W' M F' m') (hs : ∀ b, F' b → F b ∨ W.heap.size ≤ b) (hk : KP W.heap.size F W W') : Own1 W' N F' M m' ∧ Moves W W' F F' :=
  ⟨⟨h1, fun q hq => by
    rcases hs q hq with h2 | h2
    · exact h.ge q h2
    · have := h.sz; omega, Nat.le_trans h.sz hk.size⟩, hs, hk⟩
/-- another memory, beside it, stays -/
theorem Own1.beside {W W' : World} {N M : Nat} {F G G' : Nat → Prop} {m : Mm} (h : Own1 W N F M m) (hm : Moves W W' G G') (hd : ∀ b, F b → ¬ G b) : Own1 W' N F M m ∧ (∀ b, F b → ¬ G' b) :=
  ⟨⟨h.mem.kp hm.kp (Nat.le_refl _) hd, h.ge, Nat.le_trans h.sz hm.kp.size⟩, fun b hb hg => by
    rcases hm.sub b hg with h1 | h1
    · exact hd b hb h1
    · have := h.lt b hb; omega⟩
/-- a row that is not the memory's -/
def RdX (W : World) (F : Nat → Prop) (a : Option Addr) (n : Nat) (xs : List Value) : Prop := Rd W a n xs ∧ ∀ b off, 0 < n → a = some ⟨b, off, none⟩ → ¬ F b ∧ b < W.heap.size
theorem RdX.move {W W' : World} {F F' : Nat → Prop} {a : Option Addr} {n : Nat} {xs : List Value} (h : RdX W F a n xs) (hm : Moves W W' F F') : RdX W' F' a n xs :=
  ⟨hm.kp.rd h.1 (fun b off h0 e => ⟨(h.2 b off h0 e).2, (h.2 b off h0 e).1⟩), fun b off h0 e => by
    obtain ⟨h1, h2⟩ := h.2 b off h0 e
    refine ⟨fun hf => ?_, Nat.lt_of_lt_of_le h2 hm.kp.size⟩
    rcases hm.sub b hf with h3 | h3
    · exact h1 h3
    · omega⟩
/-- a new row -/
theorem RdX.new {W W' : World} {N M : Nat} {F : Nat → Prop} {m : Mm} {e : TypeId} {a : Option Addr} {n c : Nat} {xs : List Value} (h : Own1 W N F M m) (ho : W'.ownsRow W.heap.size e 1 (.slice a n c) n xs) : RdX W' F a n xs := by
  refine ⟨by have := own_rd ho; rwa [Nat.mul_one] at this, fun b off h0 e' => ?_⟩
  rcases ho.2 with ⟨_, h1⟩ | ⟨g, cap, cur, hv, hg, hb, r⟩
  · omega
  · cases hv
    cases e'
    exact ⟨fun hf => by have := h.lt _ hf; omega, (Array.getElem?_eq_some_iff.1 hb).1⟩
/-- a row of the caller's -/
theorem RdX.old {W : World} {N M : Nat} {F : Nat → Prop} {m : Mm} {a : Option Addr} {n : Nat} {xs : List Value} (h : Own1 W N F M m) (hr : Rd W a n xs) (hb : ∀ g off, a = some ⟨g, off, none⟩ → g < N) : RdX W F a n xs :=
  ⟨hr, fun b off h0 e => ⟨fun hf => by have := h.ge b hf; have := hb b off e; omega, Nat.lt_of_lt_of_le (hb b off e) h.sz⟩⟩
theorem snew_any (b : Int) (hb : badB b = false) (W : World) :
    Calls Try.prog 14 #[.int .i64 b] W fun e W' => ∃ M F, e = .returned (.tuple #[.pointer (some ⟨M, 0, none⟩), .int .i64 0]) ∧ Own1 W' W.heap.size F M (emptyM b.toNat) ∧ Below W.heap.size W W' := by
  refine (new_any b W).mono ?_
  rintro e W' (⟨h, _⟩ | ⟨_, M, rfl, h1, h2, h3⟩)
  · rw [hb] at h; cases h
  · exact ⟨M, _, rfl, ⟨h2, fun q hq => hq.1, h3.size⟩, h3⟩
theorem sbad_any (b : Int) (hb : badB b = true) (W : World) :
    Calls Try.prog 14 #[.int .i64 b] W fun e W' => e = .returned (.tuple #[.pointer none, .int .i64 1]) ∧ W = W' := by
  refine (new_any b W).mono ?_
  rintro e W' (⟨h, h2⟩ | ⟨h, _⟩)
  · exact h2
  · rw [hb] at h; cases h
theorem smap_any (W : World) (N M : Nat) (F : Nat → Prop) (m : Mm) (h : Own1 W N F M m) (f n : Int) (hf0 : 0 ≤ f) (hf1 : f < 18446744073709551616) (hn0 : -9223372036854775808 ≤ n) (hn1 : n < 9223372036854775808) :
    Calls Try.prog 45 #[.pointer (some ⟨M, 0, none⟩), .int .u64 f, .int .i64 n] W fun e W' => e = .returned (.int .i64 (mapF m f n).2) ∧ ∃ F', Own1 W' N F' M (mapF m f n).1 ∧ Moves W W' F F' := by
  refine (map_any W M F m h.mem f n hf0 hf1 hn0 hn1).mono ?_
  rintro e W' ⟨rfl, F', h4, h5, h6⟩
  exact ⟨rfl, F', own_step h h4 h5 h6⟩
theorem sunmap_any (W : World) (N M : Nat) (F : Nat → Prop) (m : Mm) (h : Own1 W N F M m) (f n : Int) (hf0 : 0 ≤ f) (hf1 : f < 18446744073709551616) (hn0 : -9223372036854775808 ≤ n) (hn1 : n < 9223372036854775808) :
    Calls Try.prog 44 #[.pointer (some ⟨M, 0, none⟩), .int .u64 f, .int .i64 n] W fun e W' => e = .returned (.int .i64 (unmapF m f n).2) ∧ ∃ F', Own1 W' N F' M (unmapF m f n).1 ∧ Moves W W' F F' := by
  refine (unmap_any W M F m h.mem f n hf0 hf1 hn0 hn1).mono ?_
  rintro e W' ⟨rfl, h4, h6⟩
  exact ⟨rfl, F, own_step h h4 (fun b hb => Or.inl hb) h6⟩
theorem sput_any (W : World) (N M : Nat) (F : Nat → Prop) (m : Mm) (h : Own1 W N F M m) (x n c : Nat) (sa : Option Addr) (l : List Nat) (hx : x < 18446744073709551616) (hln : l.length = n) (hnc : n ≤ c) (hn : n < 9223372036854775808) (hbl : ∀ b ∈ l, b < 256) (hs : Rd W sa n (u8s l)) (hne : 0 < n → ∀ g off, sa = some ⟨g, off, none⟩ → ¬ F g) :
    Calls Try.prog 29 #[.pointer (some ⟨M, 0, none⟩), .int .u64 (x : Int), .slice sa n c] W fun e W' => e = .returned (.int .i64 (putF m x l).2) ∧ ∃ F', Own1 W' N F' M (putF m x l).1 ∧ Moves W W' F F' := by
  refine (putA_any W M F m h.mem x n c sa l hx hln hnc hn hbl hs hne).mono ?_
  rintro e W' ⟨rfl, h4, h6⟩
  exact ⟨rfl, F, own_step h h4 (fun b hb => Or.inl hb) h6⟩
theorem sbytes_any (W : World) (N M : Nat) (F : Nat → Prop) (m : Mm) (h : Own1 W N F M m) (a : Nat) (n : Int) (ha : a < 18446744073709551616) (hn0 : -9223372036854775808 ≤ n) (hn1 : n < 9223372036854775808) :
    Calls Try.prog 19 #[.pointer (some ⟨M, 0, none⟩), .int .u64 (a : Int), .int .i64 n] W fun e W' => (∃ ra rc, e = .returned (.slice ra (bytesF m a n).length rc) ∧ W'.ownsRow W.heap.size 5 1 (.slice ra (bytesF m a n).length rc) (bytesF m a n).length (u8s (bytesF m a n))) ∧ Below W.heap.size W W' := by
  obtain ⟨⟨B, D, pb, h1⟩, h2, h3⟩ := h
  exact bytes_any W M B D pb F m h1 a n ha hn0 hn1
theorem spages_any (W : World) (N M : Nat) (F : Nat → Prop) (m : Mm) (h : Own1 W N F M m) :
    Calls Try.prog 16 #[.pointer (some ⟨M, 0, none⟩)] W fun e W' => ∃ (a : Option Addr) (c : Nat), e = .returned (.slice a m.pgs.length c) ∧ W'.ownsRow W.heap.size 29 1 (.slice a m.pgs.length c) m.pgs.length (u64s m.pgs) ∧ Below W.heap.size W W' := by
  obtain ⟨⟨B, D, pb, h1⟩, h2, h3⟩ := h
  exact pages_any W M B D pb F m h1
/-- a row of one's own, read later -/
theorem row_later {W W' : World} {B n c : Nat} {e : TypeId} {a : Option Addr} {xs : List Value} (h : W.ownsRow B e 1 (.slice a n c) n xs) (hb : Below W.heap.size W W') : Rd W' a n xs := by
  have := own_rd (own_kp2 h (KP.of_below (fun _ => False) hb) (fun _ _ => id))
  rwa [Nat.mul_one] at this
end Go.Proofs.Yteaididdamihlaa
