/- Ta6 McA -/
import Derived.Test.YtegoddghfjfibaaGreatDoorZ07
import Derived.Great.Walk
import Derived.Great.Ranges
import Derived.Great.BuildSlice
import Derived.Deep.MidRow
import Derived.Deep.RegionLaw
import Derived.BigQuiet
namespace Go.Proofs.YtegoddghfjfibaaGreatDoor
set_option linter.unusedVariables false
set_option linter.unusedSimpArgs false
open Go.Joins Go.ChangeShapes Go.WideShapes Go.ChangeAt Go.RowKit Go.Deep

end Go.Proofs.YtegoddghfjfibaaGreatDoor

namespace Go.Proofs.YtegoddghfjfibaaGreatDoor
set_option linter.unusedVariables false
set_option linter.unusedSimpArgs false
open Go.Joins Go.ChangeShapes Go.WideShapes Go.ChangeAt Go.RowKit Go.Deep

/-- a call: what is done, where, how many, which number, which capability, which bytes -/
structure Opr where
  d : Int
  a : Nat
  n : Int
  w : Int
  c : Cp
  l : List Nat
  ba : Option Addr
  bc : Nat
def opC (o : Opr) : Array Value := #[.int .i64 o.d, .int .u64 (o.a : Int), .int .i64 o.n, .int .u64 o.w, .int .u64 o.c.b, .int .u64 o.c.t, .int .u64 o.c.a, .int .i64 o.c.p, .int .i64 o.c.y, .bool o.c.g, .slice o.ba o.l.length o.bc]
/-- it is one that can be, its bytes below N -/
structure FitO (W : World) (N : Nat) (o : Opr) : Prop where
  a : o.a < 18446744073709551616
  n0 : -9223372036854775808 ≤ o.n
  n1 : o.n < 9223372036854775808
  w0 : 0 ≤ o.w
  w1 : o.w < 18446744073709551616
  c : FitC o.c
  lb : ∀ b ∈ o.l, b < 256
  ll : o.l.length ≤ o.bc
  lm : o.l.length < 9223372036854775808
  rd : Rd W o.ba o.l.length (u8s o.l)
  bn : 0 < o.l.length → ∀ g off, o.ba = some ⟨g, off, none⟩ → g < N
theorem FitO.below {W W' : World} {N : Nat} {o : Opr} (h : FitO W N o) (hb : Below N W W') : FitO W' N o :=
  ⟨h.a, h.n0, h.n1, h.w0, h.w1, h.c, h.lb, h.ll, h.lm, ⟨h.rd.1, fun hn => by
    obtain ⟨b, off, e, hl, hc⟩ := h.rd.2 hn
    have hbl := h.bn hn b off e
    exact ⟨b, off, e, Nat.lt_of_lt_of_le hl hb.size, fun k hk => (World.cell?_of_block (hb.block b hbl)).trans (hc k hk)⟩⟩, h.bn⟩
theorem FitO.mono {W : World} {N N' : Nat} {o : Opr} (h : FitO W N o) (hN : N ≤ N') : FitO W N' o :=
  ⟨h.a, h.n0, h.n1, h.w0, h.w1, h.c, h.lb, h.ll, h.lm, h.rd, fun hn g off e => Nat.lt_of_lt_of_le (h.bn hn g off e) hN⟩
theorem MemAt.lt {W : World} {M : Nat} {F : Nat → Prop} {m : Mm} (h : MemAt W M F m) : ∀ b, F b → b < W.heap.size := by
  obtain ⟨B, D, pb, h⟩ := h
  exact h.lt
theorem kp_belowN {W W' : World} {N : Nat} {F : Nat → Prop} (hk : KP W.heap.size F W W') (hF : ∀ b, F b → N ≤ b) (hN : N ≤ W.heap.size) : Below N W W' :=
  hk.to_below hN (fun b hb hf => by have := hF b hf; omega)
end Go.Proofs.YtegoddghfjfibaaGreatDoor

namespace Go.Proofs.YtegoddghfjfibaaGreatDoor
set_option linter.unusedVariables false
set_option linter.unusedSimpArgs false
open Go.Joins Go.ChangeShapes Go.WideShapes Go.ChangeAt Go.RowKit Go.Deep

end Go.Proofs.YtegoddghfjfibaaGreatDoor

namespace Go.Proofs.YtegoddghfjfibaaGreatDoor
set_option linter.unusedVariables false
set_option linter.unusedSimpArgs false
open Go.Joins Go.ChangeShapes Go.WideShapes Go.ChangeAt Go.RowKit Go.Deep

end Go.Proofs.YtegoddghfjfibaaGreatDoor

namespace Go.Proofs.YtegoddghfjfibaaGreatDoor
set_option linter.unusedVariables false
set_option linter.unusedSimpArgs false
open Go.Joins Go.ChangeShapes Go.WideShapes Go.ChangeAt Go.RowKit Go.Deep

/-- a row of calls, below N -/
structure RdP (W : World) (N : Nat) (a : Option Addr) (l : List Opr) : Prop where
  fit : ∀ o ∈ l, FitO W N o
  rd : 0 < l.length → ∃ b off, a = some ⟨b, off, none⟩ ∧ b < N ∧ b < W.heap.size ∧ ∀ i (h : i < l.length) j, j < 11 → W.cell? ⟨b, off + i * 11 + j, none⟩ = (opC l[i])[j]?
theorem RdP.below {W W' : World} {N : Nat} {a : Option Addr} {l : List Opr} (h : RdP W N a l) (hb : Below N W W') : RdP W' N a l :=
  ⟨fun o ho => (h.fit o ho).below hb, fun h0 => by
    obtain ⟨b, off, e, h1, h2, h3⟩ := h.rd h0
    exact ⟨b, off, e, h1, Nat.lt_of_lt_of_le h2 hb.size, fun i hi j hj => (World.cell?_of_block (hb.block b h1)).trans (h3 i hi j hj)⟩⟩
theorem RdP.mono {W : World} {N N' : Nat} {a : Option Addr} {l : List Opr} (h : RdP W N a l) (hN : N ≤ N') : RdP W N' a l :=
  ⟨fun o ho => (h.fit o ho).mono hN, fun h0 => by
    obtain ⟨b, off, e, h1, h2, h3⟩ := h.rd h0
    exact ⟨b, off, e, Nat.lt_of_lt_of_le h1 hN, h2, h3⟩⟩
/-- one memory, in blocks from N on -/
def Solo (W : World) (N M : Nat) (m : Mm) : Prop := ∃ F, MemAt W M F m ∧ (∀ q, F q → N ≤ q) ∧ N ≤ W.heap.size
end Go.Proofs.YtegoddghfjfibaaGreatDoor


namespace Go.Proofs.YtegoddghfjfibaaGreatDoor
set_option linter.unusedVariables false
set_option linter.unusedSimpArgs false
open Go.Joins Go.ChangeShapes Go.WideShapes Go.ChangeAt Go.RowKit Go.Deep

/-- a memory in blocks F, all from N on -/
structure Own1 (W : World) (N : Nat) (F : Nat → Prop) (M : Nat) (m : Mm) : Prop where
  mem : MemAt W M F m
  ge : ∀ q, F q → N ≤ q
  sz : N ≤ W.heap.size
theorem Solo.own {W : World} {N M : Nat} {m : Mm} (h : Solo W N M m) : ∃ F, Own1 W N F M m := by
  obtain ⟨F, h1, h2, h3⟩ := h
  exact ⟨F, h1, h2, h3⟩
theorem Own1.ok {W : World} {N M : Nat} {F : Nat → Prop} {m : Mm} (h : Own1 W N F M m) : Okm m := by
  obtain ⟨⟨B, D, pb, h1⟩, -⟩ := h
  exact h1.ok
theorem Own1.lt {W : World} {N M : Nat} {F : Nat → Prop} {m : Mm} (h : Own1 W N F M m) : ∀ q, F q → q < W.heap.size := h.mem.lt
/-- from one world to the next: what is not F's stays; F takes new blocks alone -/
structure Moves (W W' : World) (F F' : Nat → Prop) : Prop where
  sub : ∀ b, F' b → F b ∨ W.heap.size ≤ b
  kp : KP W.heap.size F W W'
theorem Moves.of_below {W W' : World} (F : Nat → Prop) (hb : Below W.heap.size W W') : Moves W W' F F := ⟨fun b h => Or.inl h, KP.of_below F hb⟩
theorem Own1.below {W W' : World} {N M : Nat} {F : Nat → Prop} {m : Mm} (h : Own1 W N F M m) (hb : Below W.heap.size W W') : Own1 W' N F M m := ⟨h.mem.below hb, h.ge, Nat.le_trans h.sz hb.size⟩
theorem Moves.belowN {W W' : World} {N M : Nat} {F F' : Nat → Prop} {m : Mm} (h : Own1 W N F M m) (hm : Moves W W' F F') : Below N W W' := kp_belowN hm.kp h.ge h.sz
theorem own_step {W W' : World} {N M : Nat} {F F' : Nat → Prop} {m m' : Mm} (h : Own1 W N F M m) (h1 : MemAt W' M F' m') (hs : ∀ b, F' b → F b ∨ W.heap.size ≤ b) (hk : KP W.heap.size F W W') : Own1 W' N F' M m' ∧ Moves W W' F F' :=
  ⟨⟨h1, fun q hq => by
    rcases hs q hq with h2 | h2
    · exact h.ge q h2
    · have := h.sz; omega, Nat.le_trans h.sz hk.size⟩, hs, hk⟩
/-- another memory, beside it, stays -/
theorem Own1.beside {W W' : World} {N M : Nat} {F G G' : Nat → Prop} {m : Mm} (h : Own1 W N F M m) (hm : Moves W W' G G') (hd : ∀ b, F b → ¬ G b) : Own1 W' N F M m ∧ (∀ b, F b → ¬ G' b) :=
  ⟨⟨h.mem.kp hm.kp (Nat.le_refl _) hd, h.ge, Nat.le_trans h.sz hm.kp.size⟩, fun b hb hg => by
    rcases hm.sub b hg with h1 | h1
    · exact hd b hb h1
    · have := h.lt b hb; omega⟩
/-- a row that is not the memory's -/
def RdX (W : World) (F : Nat → Prop) (a : Option Addr) (n : Nat) (xs : List Value) : Prop := Rd W a n xs ∧ ∀ b off, 0 < n → a = some ⟨b, off, none⟩ → ¬ F b ∧ b < W.heap.size
theorem RdX.move {W W' : World} {F F' : Nat → Prop} {a : Option Addr} {n : Nat} {xs : List Value} (h : RdX W F a n xs) (hm : Moves W W' F F') : RdX W' F' a n xs :=
  ⟨hm.kp.rd h.1 (fun b off h0 e => ⟨(h.2 b off h0 e).2, (h.2 b off h0 e).1⟩), fun b off h0 e => by
    obtain ⟨h1, h2⟩ := h.2 b off h0 e
    refine ⟨fun hf => ?_, Nat.lt_of_lt_of_le h2 hm.kp.size⟩
    rcases hm.sub b hf with h3 | h3
    · exact h1 h3
    · omega⟩
/-- a new row -/
theorem RdX.new {W W' : World} {N M : Nat} {F : Nat → Prop} {m : Mm} {e : TypeId} {a : Option Addr} {n c : Nat} {xs : List Value} (h : Own1 W N F M m) (ho : W'.ownsRow W.heap.size e 1 (.slice a n c) n xs) : RdX W' F a n xs := by
  refine ⟨by have := own_rd ho; rwa [Nat.mul_one] at this, fun b off h0 e' => ?_⟩
  rcases ho.2 with ⟨_, h1⟩ | ⟨g, cap, cur, hv, hg, hb, r⟩
  · omega
  · cases hv
    cases e'
    exact ⟨fun hf => by have := h.lt _ hf; omega, (Array.getElem?_eq_some_iff.1 hb).1⟩
/-- a row of the caller's -/
theorem RdX.old {W : World} {N M : Nat} {F : Nat → Prop} {m : Mm} {a : Option Addr} {n : Nat} {xs : List Value} (h : Own1 W N F M m) (hr : Rd W a n xs) (hb : ∀ g off, a = some ⟨g, off, none⟩ → g < N) : RdX W F a n xs :=
  ⟨hr, fun b off h0 e => ⟨fun hf => by have := h.ge b hf; have := hb b off e; omega, Nat.lt_of_lt_of_le (hb b off e) h.sz⟩⟩
theorem snew_any (b : Int) (hb : badB b = false) (W : World) :
    Calls Tryz.prog 29 #[.int .i64 b] W fun e W' => ∃ M F, e = .returned (.tuple #[.pointer (some ⟨M, 0, none⟩), .int .i64 0]) ∧ Own1 W' W.heap.size F M (emptyM b.toNat) ∧ Below W.heap.size W W' := by
  refine (new_any b W).mono ?_
  rintro e W' (⟨h, _⟩ | ⟨_, M, rfl, h1, h2, h3⟩)
  · rw [hb] at h; cases h
  · exact ⟨M, _, rfl, ⟨h2, fun q hq => hq.1, h3.size⟩, h3⟩
theorem smap_any (W : World) (N M : Nat) (F : Nat → Prop) (m : Mm) (h : Own1 W N F M m) (f n : Int) (hf0 : 0 ≤ f) (hf1 : f < 18446744073709551616) (hn0 : -9223372036854775808 ≤ n) (hn1 : n < 9223372036854775808) :
    Calls Tryz.prog 31 #[.pointer (some ⟨M, 0, none⟩), .int .u64 f, .int .i64 n] W fun e W' => e = .returned (.int .i64 (mapF m f n).2) ∧ ∃ F', Own1 W' N F' M (mapF m f n).1 ∧ Moves W W' F F' := by
  refine (map_any W M F m h.mem f n hf0 hf1 hn0 hn1).mono ?_
  rintro e W' ⟨rfl, F', h4, h5, h6⟩
  exact ⟨rfl, F', own_step h h4 h5 h6⟩
theorem sstore_any (W : World) (N M : Nat) (F : Nat → Prop) (m : Mm) (h : Own1 W N F M m) (a : Nat) (n w : Int) (ha : a < 18446744073709551616) (hw0 : 0 ≤ w) (hw1 : w < 18446744073709551616) :
    Calls Tryz.prog 34 #[.pointer (some ⟨M, 0, none⟩), .int .u64 (a : Int), .int .i64 n, .int .u64 w] W fun e W' => e = .returned (.int .i64 (storeF m a n w).2) ∧ ∃ F', Own1 W' N F' M (storeF m a n w).1 ∧ Moves W W' F F' := by
  refine (store_any W M F m h.mem a n w ha hw0 hw1).mono ?_
  rintro e W' ⟨rfl, h4, h6⟩
  exact ⟨rfl, F, own_step h h4 (fun b hb => Or.inl hb) h6⟩
theorem sstoreC_any (W : World) (N M : Nat) (F : Nat → Prop) (m : Mm) (h : Own1 W N F M m) (a : Nat) (c : Cp) (ha : a < 18446744073709551616) (hc : FitC c) :
    Calls Tryz.prog 38 #[.pointer (some ⟨M, 0, none⟩), .int .u64 (a : Int), .agg (capC c).toArray] W fun e W' => e = .returned (.int .i64 (storeC m a c).2) ∧ ∃ F', Own1 W' N F' M (storeC m a c).1 ∧ Moves W W' F F' := by
  refine (storeC_any W M F m h.mem a c ha hc).mono ?_
  rintro e W' ⟨rfl, h4, h6⟩
  exact ⟨rfl, F, own_step h h4 (fun b hb => Or.inl hb) h6⟩
theorem sload_any (W : World) (N M : Nat) (F : Nat → Prop) (m : Mm) (h : Own1 W N F M m) (a : Nat) (n : Int) (ha : a < 18446744073709551616) :
    Calls Tryz.prog 86 #[.pointer (some ⟨M, 0, none⟩), .int .u64 (a : Int), .int .i64 n] W fun e W' => e = .returned (.tuple #[.int .u64 (loadF m a n).1, .int .i64 (loadF m a n).2]) ∧ W = W' := by
  obtain ⟨⟨B, D, pb, h1⟩, h2, h3⟩ := h
  exact load_any W M B D pb F m h1 a n ha
theorem sloadC_any (W : World) (N M : Nat) (F : Nat → Prop) (m : Mm) (h : Own1 W N F M m) (a : Nat) (ha : a < 18446744073709551616) :
    Calls Tryz.prog 51 #[.pointer (some ⟨M, 0, none⟩), .int .u64 (a : Int)] W fun e W' => e = .returned (.tuple #[.agg (capC (loadC m a).1).toArray, .int .i64 (loadC m a).2]) ∧ Below W.heap.size W W' := by
  obtain ⟨⟨B, D, pb, h1⟩, h2, h3⟩ := h
  exact loadC_any W M B D pb F m h1 a ha
end Go.Proofs.YtegoddghfjfibaaGreatDoor


namespace Go.Proofs.YtegoddghfjfibaaGreatDoor
set_option linter.unusedVariables false
set_option linter.unusedSimpArgs false
open Go.Joins Go.ChangeShapes Go.WideShapes Go.ChangeAt Go.RowKit Go.Deep

def nullC : Cp := ⟨0, 0, 0, 0, -1, false⟩
def capsV (l : List Cp) : List Value := l.flatMap capC
theorem capC_len6 (c : Cp) : (capC c).length = 6 := rfl
theorem capsV_len (l : List Cp) : (capsV l).length = 6 * l.length := by
  unfold capsV
  induction l with
  | nil => rfl
  | cons c r ih => rw [List.flatMap_cons, List.length_append, ih, capC_len6, List.length_cons]; omega
theorem capsV_app (a b : List Cp) : capsV (a ++ b) = capsV a ++ capsV b := List.flatMap_append
theorem capsV_cons (c : Cp) (r : List Cp) : capsV (c :: r) = capC c ++ capsV r := List.flatMap_cons
/-- a machine's cells: where it is, its registers, its memory -/
def mcL (pc : Cp) (rs : List Cp) (M : Nat) : List Value := capC pc ++ (capsV rs ++ [.pointer (some ⟨M, 0, none⟩)])
theorem boxN_mid (B : Nat) : ∀ (vs pre old post : List Value) (W : World), old.length = vs.length → BoxN W B (pre ++ (old ++ post)).toArray → BoxN (W.setCells B pre.length vs) B (pre ++ (vs ++ post)).toArray
  | [], pre, old, post, W, hl, h => by
    rw [List.length_eq_zero_iff.1 hl] at h
    exact h
  | v :: r, pre, [], post, W, hl, h => by cases hl
  | v :: r, pre, x :: s, post, W, hl, h => by
    have h1 := h.set pre.length v
    have e1 : ((pre ++ (x :: s ++ post)).toArray.setIfInBounds pre.length v) = ((pre ++ [v]) ++ (s ++ post)).toArray := by
      simp
    rw [e1] at h1
    have h2 := boxN_mid B r (pre ++ [v]) s post _ (by simpa using hl) h1
    rw [List.length_append, List.length_singleton, List.append_assoc, List.singleton_append] at h2
    exact h2
theorem range_mid {W : World} {B : Nat} {pre mid post : List Value} (h : BoxN W B (pre ++ (mid ++ post)).toArray) : W.rangeAt B pre.length mid := fun j v hv => by
  have hj := (List.getElem?_eq_some_iff.1 hv).1
  rw [h.cell, List.getElem?_toArray, List.getElem?_append_right (by omega), show pre.length + j - pre.length = j by omega, List.getElem?_append_left hj, hv]
theorem there_mid {W : World} {B : Nat} {pre mid post : List Value} (h : BoxN W B (pre ++ (mid ++ post)).toArray) : W.there B pre.length mid.length := fun j hj => by
  refine ⟨?_, h.frozen _⟩
  rw [range_mid h j mid[j] (List.getElem?_eq_getElem hj)]
  rfl
/-- a machine in block A -/
structure McAt (W : World) (A M : Nat) (pc : Cp) (rs : List Cp) : Prop where
  box : BoxN W A (mcL pc rs M).toArray
  len : rs.length = 32
theorem mcL_split (pc : Cp) (rs : List Cp) (M i : Nat) (h : i < rs.length) : mcL pc rs M = (capC pc ++ capsV (rs.take i)) ++ (capC rs[i] ++ (capsV (rs.drop (i + 1)) ++ [.pointer (some ⟨M, 0, none⟩)])) := by
  unfold mcL
  have e : rs = rs.take i ++ (rs[i] :: rs.drop (i + 1)) := by rw [← List.drop_eq_getElem_cons h, List.take_append_drop]
  have e2 : capsV rs = capsV (rs.take i) ++ (capC rs[i] ++ capsV (rs.drop (i + 1))) := by
    conv => lhs; rw [e]
    rw [capsV_app, capsV_cons]
  rw [e2]
  simp only [List.append_assoc]
theorem mcL_set (pc : Cp) (rs : List Cp) (M i : Nat) (c : Cp) (h : i < rs.length) : mcL pc (rs.set i c) M = (capC pc ++ capsV (rs.take i)) ++ (capC c ++ (capsV (rs.drop (i + 1)) ++ [.pointer (some ⟨M, 0, none⟩)])) := by
  rw [mcL_split pc (rs.set i c) M i (by simpa using h)]
  rw [List.take_set_of_le (Nat.le_refl _), List.getElem_set_self, List.drop_set_of_lt (Nat.lt_succ_self _)]
theorem mc_pre (pc : Cp) (rs : List Cp) (i : Nat) (h : i < rs.length) : (capC pc ++ capsV (rs.take i)).length = 6 + i * 6 := by
  rw [List.length_append, capsV_len, List.length_take, capC_len6, Nat.min_eq_left (by omega)]; omega
theorem McAt.reg {W : World} {A M : Nat} {pc : Cp} {rs : List Cp} (h : McAt W A M pc rs) (i : Nat) (hi : i < rs.length) : W.rangeAt A (6 + i * 6) (capC rs[i]) := by
  have hb := h.box
  rw [mcL_split pc rs M i hi] at hb
  have := range_mid hb
  rwa [mc_pre pc rs i hi] at this
theorem McAt.regThere {W : World} {A M : Nat} {pc : Cp} {rs : List Cp} (h : McAt W A M pc rs) (i : Nat) (hi : i < rs.length) : W.there A (6 + i * 6) 6 := by
  have hb := h.box
  rw [mcL_split pc rs M i hi] at hb
  have := there_mid hb
  rwa [mc_pre pc rs i hi] at this
theorem McAt.setReg {W : World} {A M : Nat} {pc : Cp} {rs : List Cp} (h : McAt W A M pc rs) (i : Nat) (hi : i < rs.length) (c : Cp) : McAt (W.setCells A (6 + i * 6) (capC c)) A M pc (rs.set i c) := by
  refine ⟨?_, by rw [List.length_set]; exact h.len⟩
  have hb := h.box
  rw [mcL_split pc rs M i hi] at hb
  have := boxN_mid A (capC c) _ (capC rs[i]) _ W rfl hb
  rw [mc_pre pc rs i hi] at this
  rwa [mcL_set pc rs M i c hi]
theorem McAt.pcAt {W : World} {A M : Nat} {pc : Cp} {rs : List Cp} (h : McAt W A M pc rs) : W.rangeAt A 0 (capC pc) := range_mid (pre := []) (mid := capC pc) h.box
theorem McAt.pcThere {W : World} {A M : Nat} {pc : Cp} {rs : List Cp} (h : McAt W A M pc rs) : W.there A 0 6 := there_mid (pre := []) (mid := capC pc) h.box
theorem McAt.setPc {W : World} {A M : Nat} {pc : Cp} {rs : List Cp} (h : McAt W A M pc rs) (c : Cp) : McAt (W.setCells A 0 (capC c)) A M c rs :=
  ⟨boxN_mid A (capC c) [] (capC pc) _ W rfl h.box, h.len⟩
theorem McAt.mem {W : World} {A M : Nat} {pc : Cp} {rs : List Cp} (h : McAt W A M pc rs) : W.cell? ⟨A, 198, none⟩ = some (.pointer (some ⟨M, 0, none⟩)) := by
  rw [h.box.cell, List.getElem?_toArray]
  unfold mcL
  rw [List.getElem?_append_right (by rw [capC_len6]; omega), List.getElem?_append_right (by rw [capsV_len, capC_len6, h.len]; omega), capsV_len, capC_len6, h.len]
  rfl
theorem McAt.lt {W : World} {A M : Nat} {pc : Cp} {rs : List Cp} (h : McAt W A M pc rs) : A < W.heap.size := h.box.lt
theorem McAt.below {W W' : World} {A M : Nat} {pc : Cp} {rs : List Cp} (h : McAt W A M pc rs) (hb : Below W.heap.size W W') : McAt W' A M pc rs := ⟨boxN_below h.box hb, h.len⟩
theorem McAt.kp {W W' : World} {n A M : Nat} {S : Nat → Prop} {pc : Cp} {rs : List Cp} (h : McAt W A M pc rs) (hk : KP n S W W') (hA : A < n) (hS : ¬ S A) : McAt W' A M pc rs := ⟨h.box.kp hk hA hS, h.len⟩
theorem range6 {W : World} {B o : Nat} {c : Cp} (h : W.rangeAt B o (capC c)) : W.cell? ⟨B, o, none⟩ = some (.int .u64 c.b) ∧ W.cell? ⟨B, o + 1, none⟩ = some (.int .u64 c.t) ∧ W.cell? ⟨B, o + 2, none⟩ = some (.int .u64 c.a) ∧ W.cell? ⟨B, o + 3, none⟩ = some (.int .i64 c.p) ∧ W.cell? ⟨B, o + 4, none⟩ = some (.int .i64 c.y) ∧ W.cell? ⟨B, o + 5, none⟩ = some (.bool c.g) :=
  ⟨h 0 _ rfl, h 1 _ rfl, h 2 _ rfl, h 3 _ rfl, h 4 _ rfl, h 5 _ rfl⟩
theorem there6 {W : World} {B o : Nat} (h : W.there B o 6) : W.frozen? ⟨B, o, none⟩ = false ∧ W.frozen? ⟨B, o + 1, none⟩ = false ∧ W.frozen? ⟨B, o + 2, none⟩ = false ∧ W.frozen? ⟨B, o + 3, none⟩ = false ∧ W.frozen? ⟨B, o + 4, none⟩ = false ∧ W.frozen? ⟨B, o + 5, none⟩ = false :=
  ⟨(h 0 (by decide)).2, (h 1 (by decide)).2, (h 2 (by decide)).2, (h 3 (by decide)).2, (h 4 (by decide)).2, (h 5 (by decide)).2⟩
theorem set6_eq (W : World) (B o : Nat) (v0 v1 v2 v3 v4 v5 : Value) : W.setCells B o [v0, v1, v2, v3, v4, v5] = (((((W.setCell ⟨B, o, none⟩ v0).setCell ⟨B, o + 1, none⟩ v1).setCell ⟨B, o + 2, none⟩ v2).setCell ⟨B, o + 3, none⟩ v3).setCell ⟨B, o + 4, none⟩ v4).setCell ⟨B, o + 5, none⟩ v5 := rfl
theorem kp_setCells {n : Nat} {S : Nat → Prop} {A : World} (b : Nat) (hb : n ≤ b ∨ S b) : ∀ (vs : List Value) (o : Nat) (B : World), KP n S A B → KP n S A (B.setCells b o vs)
  | [], o, B, h => h
  | v :: r, o, B, h => kp_setCells b hb r (o + 1) _ (h.set ⟨b, o, none⟩ hb v)
theorem below_setCells {B : Nat} {w : World} (b : Nat) (hb : B ≤ b) : ∀ (vs : List Value) (o : Nat) (w' : World), Below B w w' → Below B w (w'.setCells b o vs)
  | [], o, w', h => h
  | v :: r, o, w', h => below_setCells b hb r (o + 1) _ (Below.setCell h hb v)
theorem boxN6 {W : World} {B : Nat} {v0 v1 v2 v3 v4 v5 : Value} (h : BoxN W B #[v0, v1, v2, v3, v4, v5]) :
    (W.cell? ⟨B, 0, none⟩ = some v0 ∧ W.cell? ⟨B, 1, none⟩ = some v1 ∧ W.cell? ⟨B, 2, none⟩ = some v2 ∧ W.cell? ⟨B, 3, none⟩ = some v3 ∧ W.cell? ⟨B, 4, none⟩ = some v4 ∧ W.cell? ⟨B, 5, none⟩ = some v5) ∧
      (W.frozen? ⟨B, 0, none⟩ = false ∧ W.frozen? ⟨B, 1, none⟩ = false ∧ W.frozen? ⟨B, 2, none⟩ = false ∧ W.frozen? ⟨B, 3, none⟩ = false ∧ W.frozen? ⟨B, 4, none⟩ = false ∧ W.frozen? ⟨B, 5, none⟩ = false) :=
  ⟨⟨h.cell 0, h.cell 1, h.cell 2, h.cell 3, h.cell 4, h.cell 5⟩, ⟨h.frozen 0, h.frozen 1, h.frozen 2, h.frozen 3, h.frozen 4, h.frozen 5⟩⟩
theorem below_set6 {B b : Nat} {w W : World} {v0 v1 v2 v3 v4 v5 : Value} (h : Below B w W) (hb : B ≤ b) : Below B w ((((((W.setCell ⟨b, 0, none⟩ v0).setCell ⟨b, 1, none⟩ v1).setCell ⟨b, 2, none⟩ v2).setCell ⟨b, 3, none⟩ v3).setCell ⟨b, 4, none⟩ v4).setCell ⟨b, 5, none⟩ v5) :=
  Below.setCell (p := ⟨b, 5, none⟩) (Below.setCell (p := ⟨b, 4, none⟩) (Below.setCell (p := ⟨b, 3, none⟩) (Below.setCell (p := ⟨b, 2, none⟩) (Below.setCell (p := ⟨b, 1, none⟩) (Below.setCell (p := ⟨b, 0, none⟩) h hb _) hb _) hb _) hb _) hb _) hb _
/-! Small contracts. -/
theorem int0_any (x : Int) (w : World) :
    Calls Tryz.prog 116 #[.int .u64 x] w fun e w' => e = .returned (.agg #[.int .u64 0, .int .u64 0, .int .u64 x, .int .i64 0, .int .i64 (-1), .bool false]) ∧ Below w.heap.size w w' := by
  go_enter Tryz.func116, Tryz.ntmps116
  go_wp2_with fail
  exact bodyPost_ret (v := .agg #[.int .u64 0, .int .u64 0, .int .u64 x, .int .i64 0, .int .i64 (-1), .bool false]) (by simp [results, Tryz.results116, go_sem]) rfl ⟨rfl, (by repeat' (first | (with_reducible refine Below.setCell ?_ ?_ _) | (with_reducible refine bAlloc ?_ _) | (with_reducible exact Below.refl _ _) | (simp; done) | (simp; omega)))⟩
theorem null_any (w : World) :
    Calls Tryz.prog 48 #[] w fun e w' => e = .returned (.agg #[.int .u64 0, .int .u64 0, .int .u64 0, .int .i64 0, .int .i64 (-1), .bool false]) ∧ Below w.heap.size w w' := by
  go_enter Tryz.func48, Tryz.ntmps48
  go_wp2_with fail
  refine (int0_any _ _).mono ?_; rintro e w1 ⟨rfl, hb⟩
  have hk : BoxN w1 w.heap.size #[.int .u64 0, .int .u64 0, .int .u64 0, .int .i64 0, .int .i64 0, .bool false] := boxN_below (BoxN.new w _ 24) hb
  have hb1 : Below w.heap.size w w1 := bTrans (bAlloc (Below.refl _ _) _) hb
  have HB := Lib.hid hb1
  obtain ⟨⟨c0, c1, c2, c3, c4, c5⟩, f0, f1, f2, f3, f4, f5⟩ := boxN6 hk
  clear hk hb hb1
  go_wp2_with fail
  exact bodyPost_ret (v := .agg #[.int .u64 0, .int .u64 0, .int .u64 0, .int .i64 0, .int .i64 (-1), .bool false]) (by simp [results, Tryz.results48, go_sem, c0, c1, c2, c3, c4, c5]) rfl ⟨rfl, below_set6 HB.out (Nat.le_refl _)⟩
theorem rint_any (x : Int) (w : World) :
    Calls Tryz.prog 28 #[.int .u64 x] w fun e w' => e = .returned (.agg #[.int .u64 0, .int .u64 0, .int .u64 x, .int .i64 0, .int .i64 (-1), .bool false]) ∧ Below w.heap.size w w' := by
  go_enter Tryz.func28, Tryz.ntmps28
  go_wp2_with fail
  exact bodyPost_ret (v := .agg #[.int .u64 0, .int .u64 0, .int .u64 x, .int .i64 0, .int .i64 (-1), .bool false]) (by simp [results, Tryz.results28, go_sem]) rfl ⟨rfl, (by repeat' (first | (with_reducible refine Below.setCell ?_ ?_ _) | (with_reducible refine bAlloc ?_ _) | (with_reducible exact Below.refl _ _) | (simp; done) | (simp; omega)))⟩
theorem clear_any (cb ct ca cp cy : Int) (cg : Bool) (w : World) :
    Calls Tryz.prog 147 #[.agg #[.int .u64 cb, .int .u64 ct, .int .u64 ca, .int .i64 cp, .int .i64 cy, .bool cg]] w fun e w' => e = .returned (.agg #[.int .u64 cb, .int .u64 ct, .int .u64 ca, .int .i64 cp, .int .i64 cy, .bool false]) ∧ Below w.heap.size w w' := by
  go_enter Tryz.func147, Tryz.ntmps147
  go_wp2_with fail
  exact bodyPost_ret (v := .agg #[.int .u64 cb, .int .u64 ct, .int .u64 ca, .int .i64 cp, .int .i64 cy, .bool false]) (by simp [results, Tryz.results147, go_sem]) rfl ⟨rfl, (by repeat' (first | (with_reducible refine Below.setCell ?_ ?_ _) | (with_reducible refine bAlloc ?_ _) | (with_reducible exact Below.refl _ _) | (simp; done) | (simp; omega)))⟩
end Go.Proofs.YtegoddghfjfibaaGreatDoor

