/- A range over a list of symbols in pieces of 40, of lists that are no longer than that: its contract. -/
import Derived.RangeFuncNested
import Derived.RangeFuncBound
import Derived.RangeFuncCalls
import Derived.RangeFuncLeaves
import Derived.Shelf.Abstract
import Derived.Shelf.RegionOpen
import Derived.WalkKit
import Derived.OwnWalkIn
import Derived.TacticsInMore
import Derived.LoopNIn
import Derived.LoopIn
import Derived.Test.YthammjpadbbflaaLkA
import Derived.Test.YthammjpadbbflaaLkHasD
import Derived.Test.YthammjpadbbflaaHasH
import Derived.Test.YthammjpadbbflaaHasO
namespace Go.Proofs.Ythammjpadbbflaa
set_option linter.unusedVariables false
set_option linter.unusedSimpArgs false
open Go.Joins Go.ChangeShapes Go.WideShapes Go.ChangeAt Go.RowKit Go.Deep Go.Shelf
attribute [local go_sem] Oper.semAt_some

/-- what lay below n, but blocks of S, lies as it lay -/
structure KP (n : Nat) (S : Nat → Prop) (W W' : World) : Prop where
  os : W'.os = W.os
  tape : W'.tape = W.tape
  output : W'.output = W.output
  size : W.heap.size ≤ W'.heap.size
  block : ∀ b, b < n → ¬ S b → W'.heap[b]? = W.heap[b]?
theorem KP.refl (n : Nat) (S : Nat → Prop) (W : World) : KP n S W W := ⟨rfl, rfl, rfl, Nat.le_refl _, fun _ _ _ => rfl⟩
theorem KP.trans {n : Nat} {S : Nat → Prop} {A B C : World} (h : KP n S A B) (k : KP n S B C) : KP n S A C := ⟨k.os.trans h.os, k.tape.trans h.tape, k.output.trans h.output, Nat.le_trans h.size k.size, fun b h1 h2 => (k.block b h1 h2).trans (h.block b h1 h2)⟩
theorem KP.mono {n m : Nat} {S T : Nat → Prop} {A B : World} (h : KP n S A B) (hm : m ≤ n) (hS : ∀ b, b < m → S b → T b) : KP m T A B := ⟨h.os, h.tape, h.output, h.size, fun b h1 h2 => h.block b (by omega) (fun q => h2 (hS b h1 q))⟩
theorem KP.grown {n : Nat} {S : Nat → Prop} {A B C : World} {row : Option Nat} (h : KP n S A B) (hg : B.grownBy C row) (hn : n ≤ B.heap.size) (hr : ∀ r, row = some r → n ≤ r ∨ S r) : KP n S A C :=
  h.trans ⟨hg.os, hg.tape, hg.output, hg.size, fun b h1 h2 => hg.block b (by omega) (fun e => by rcases hr b e.symm with h3 | h3; omega; exact h2 h3)⟩
theorem KP.below {n : Nat} {S : Nat → Prop} {A B C : World} {m : Nat} (h : KP n S A B) (hb : Below m B C) (hn : n ≤ m) : KP n S A C :=
  h.trans ⟨hb.os, hb.tape, hb.output, hb.size, fun b h1 _ => hb.block b (by omega)⟩
theorem KP.set {n : Nat} {S : Nat → Prop} {A B : World} (h : KP n S A B) (p : Addr) (hp : n ≤ p.block ∨ S p.block) (u : Value) : KP n S A (B.setCell p u) :=
  h.trans ⟨((Below.refl 0 B).setCell (p := p) (Nat.zero_le _) u).os, ((Below.refl 0 B).setCell (p := p) (Nat.zero_le _) u).tape, ((Below.refl 0 B).setCell (p := p) (Nat.zero_le _) u).output, ((Below.refl 0 B).setCell (p := p) (Nat.zero_le _) u).size, fun b h1 h2 => Below.heap_setCell _ _ _ _ (fun e => by rcases hp with h3 | h3; omega; exact h2 (e ▸ h3))⟩
theorem KP.drew {n : Nat} {S : Nat → Prop} {A B : World} (h : KP n S A B) : KP n S A B.drew := h.trans ⟨rfl, rfl, rfl, Nat.le_refl _, fun _ _ _ => rfl⟩
theorem KP.cell {n : Nat} {S : Nat → Prop} {A B : World} (h : KP n S A B) {b off : Nat} {v : Value} (hb : b < n) (hx : ¬ S b) (hc : A.cell? ⟨b, off, none⟩ = some v) : B.cell? ⟨b, off, none⟩ = some v := (World.cell?_of_block (h.block b hb hx)).trans hc
theorem KP.frozen {n : Nat} {S : Nat → Prop} {A B : World} (h : KP n S A B) {b off : Nat} {q : Bool} (hb : b < n) (hx : ¬ S b) (hc : A.frozen? ⟨b, off, none⟩ = q) : B.frozen? ⟨b, off, none⟩ = q := (World.frozen?_of_block (h.block b hb hx)).trans hc
theorem KP.putObj {n : Nat} {S : Nat → Prop} (W : World) (l : Nat) (o : Go.Obj) (hl : n ≤ l) : KP n S W (W.putObj l o) :=
  ⟨(grownBy_putObj' W l o).os, (grownBy_putObj' W l o).tape, (grownBy_putObj' W l o).output, (grownBy_putObj' W l o).size, fun b h1 h2 => World.putObj_heap_other (by omega)⟩
theorem KP.rd {n : Nat} {S : Nat → Prop} {A B : World} (h : KP n S A B) {a : Option Addr} {m : Nat} {xs : List Value} (hr : Rd A a m xs) (hx : ∀ b off, 0 < m → a = some ⟨b, off, none⟩ → b < n ∧ ¬ S b) : Rd B a m xs :=
  ⟨hr.1, fun hn => by
    obtain ⟨b, off, e, hl, hc⟩ := hr.2 hn
    obtain ⟨h1, h2⟩ := hx b off hn e
    exact ⟨b, off, e, Nat.lt_of_lt_of_le hl h.size, fun k hk => (World.cell?_of_block (h.block b h1 h2)).trans (hc k hk)⟩⟩
theorem KP.rdS {n : Nat} {S : Nat → Prop} {A B : World} (h : KP n S A B) {a : Option Addr} {l : List Sym} (hr : RdS A a l) (hx : ∀ b off, 0 < l.length → a = some ⟨b, off, none⟩ → b < n ∧ ¬ S b) : RdS B a l := fun hn => by
  obtain ⟨b, off, e, hl, hc⟩ := hr hn
  obtain ⟨h1, h2⟩ := hx b off hn e
  exact ⟨b, off, e, Nat.lt_of_lt_of_le hl h.size, fun k hk j => (hc k hk j).imp (fun q => (World.cell?_of_block (h.block b h1 h2)).trans q) id⟩
theorem chunk_any (a : Option Addr) (n c : Nat) (w : World) :
    Calls Try.prog 49 #[.slice a n c, .int .i64 40] w fun e w' => e = .returned (.func (.func 66) #[] #[.pointer (some ⟨w.heap.size, 0, none⟩), .pointer (some ⟨w.heap.size + 1, 0, none⟩)]) ∧ w' = (w.alloc (.cells #[.slice a n c] 34)).alloc (.cells #[.int .i64 40] 3) := by
  go_enter Try.func49, Try.ntmps49
  go_wp2_with fail
  go_ret
  exact ⟨rfl, rfl⟩
/-- the pieces of a list of so many: one, or none -/
def pieces (n : Nat) : List Unit := if n = 0 then [] else [()]
theorem pieces_le (n : Nat) : (pieces n).length ≤ 1 := by unfold pieces; split <;> simp
theorem pieces_pos {n k : Nat} (h : k < (pieces n).length) : 0 < n := by
  unfold pieces at h
  split at h
  · simp at h
  · omega
theorem grownBy_refl (w : World) : w.grownBy w none := ⟨rfl, rfl, rfl, Nat.le_refl _, fun _ _ _ => rfl⟩
theorem grownBy_drew0 (w : World) : w.grownBy w.drew none := ⟨rfl, rfl, rfl, Nat.le_refl _, fun _ _ _ => rfl⟩
theorem mixed : Try.prog.follows .mixedOrders = true := by kernel_rfl
set_option maxRecDepth 100000 in
set_option maxHeartbeats 2000000 in
theorem chunk1_in (F : Fence) (n : Nat) (h66 : F.fn 66) (hro : F.round = none) (hn : 1 ≤ n) (l Bs n₀ : Nat) (S : Nat → Prop) (a : Option Addr) (m c : Nat) (hm : m ≤ 40) (hc : m ≤ c) (hBn : Bs + 1 < n₀) (hB0 : ¬ S Bs) (hB1 : ¬ S (Bs + 1)) (ha : 0 < m → ∃ b off, a = some ⟨b, off, none⟩) (J Jx : List Unit → World → Prop)
    (hJD : ∀ W, J [] W → J [] W.drew)
    (hY : ∀ pre x W, J pre W → pre.length < (pieces m).length → YieldAt F (n - 1) Try.prog l #[.slice a m m] W fun e W' =>
      (e = .returned (.bool true) ∧ J (pre ++ [x]) W' ∧ KP n₀ S W W') ∨ (e = .returned (.bool false) ∧ Jx (pre ++ [x]) W'))
    (W : World) (h0 : W.cell? ⟨Bs, 0, none⟩ = some (.slice a m c)) (h1 : W.cell? ⟨Bs + 1, 0, none⟩ = some (.int .i64 40)) (hJ0 : J [] W) :
    CallsIn F n Try.prog 66 #[.func (.yield l) #[] #[], .pointer (some ⟨Bs, 0, none⟩), .pointer (some ⟨Bs + 1, 0, none⟩)] W fun e W' => (∃ v, e = .returned v) ∧
      ((∃ ys, ys = pieces m ∧ J ys W') ∨ (∃ pre, True ∧ Jx pre W')) := by
  have HN1 := Lib.hid (show 1 ≤ n - 1 ∨ n = 1 by omega)
  refine callsIn_of_wp Try.func66 rfl h66 ?_ hro
  simp only [Try.ntmps66, List.size_toArray, List.length_cons, List.length_nil, Nat.reduceAdd, Nat.reduceSub, Array.replicate_succ, Array.replicate_zero, List.push_toArray, List.append_toArray, List.nil_append, List.cons_append]
  gi_wp2
  gi_loopw [4] (fun i wr => (i = .int .i64 0 ∧ J [] wr ∧ wr = W) ∨ (i = .int .i64 40 ∧ 0 < m ∧ J [()] wr ∧ Hid (KP n₀ S W wr))) (fun i _ => (80 - intOf i).toNat)
  case atStart => exact Or.inl ⟨rfl, hJ0, rfl⟩
  case round =>
    rcases hrel with ⟨rfl, hJs, rfl⟩ | ⟨rfl, hm0, hJs, HK⟩
    · rcases Nat.eq_zero_or_pos m with hm0 | hm0
      · subst hm0
        gi_wp2
        go_end0
        exact ⟨⟨_, rfl⟩, .inl ⟨_, rfl, hJs⟩⟩
      · obtain ⟨b, off, rfl⟩ := ha hm0
        obtain ⟨fn, tmps, assign, body, hy, hR⟩ := hY [] () wr.drew (hJD _ hJs) (by unfold pieces; rw [if_neg (by omega)]; decide)
        have HR := Lib.hid hR
        have HM0 := Lib.hid hm0
        have H0 := Lib.hid h0
        have H1 := Lib.hid h1
        have hm1 : (0 : Int) < (m : Int) := by omega
        have hmo := mixed
        clear hY hJD hJ0 ha hR hm0
        rcases Nat.lt_or_ge m 40 with h40 | h40
        · have h40i : (m : Int) < 40 := by omega
          gi_wp2
          gi_region_o
          all_goals
            gi_wp2
            refine HR.out.mono ?_
            rintro e W3 (⟨rfl, hJ3, hk3⟩ | ⟨rfl, hJx3⟩)
            · have g1 := hk3.cell (b := Bs + 1) hBn hB1 (show wr.drew.cell? ⟨Bs + 1, 0, none⟩ = _ from H1.out)
              have HJ3 := Lib.hid hJ3
              have HK3 := Lib.hid hk3
              clear h0 h1 hJ3 hk3
              gi_wp2
              go_roundw
              case rel => exact Or.inr ⟨rfl, HM0.out, HJ3.out, Lib.hid ((KP.drew (KP.refl _ _ wr)).trans HK3.out)⟩
              case measure => simp [intOf]
            · gi_wp2
              refine bodyPost_ret (results_none rfl _ _ _) rfl ?_
              exact ⟨⟨_, rfl⟩, .inr ⟨_, trivial, hJx3⟩⟩
        · obtain rfl : m = 40 := by omega
          gi_wp2
          gi_region_o
          all_goals
            gi_wp2
            refine HR.out.mono ?_
            rintro e W3 (⟨rfl, hJ3, hk3⟩ | ⟨rfl, hJx3⟩)
            · have g1 := hk3.cell (b := Bs + 1) hBn hB1 (show wr.drew.cell? ⟨Bs + 1, 0, none⟩ = _ from H1.out)
              have HJ3 := Lib.hid hJ3
              have HK3 := Lib.hid hk3
              clear h0 h1 hJ3 hk3
              gi_wp2
              go_roundw
              case rel => exact Or.inr ⟨rfl, HM0.out, HJ3.out, Lib.hid ((KP.drew (KP.refl _ _ wr)).trans HK3.out)⟩
              case measure => simp [intOf]
            · gi_wp2
              refine bodyPost_ret (results_none rfl _ _ _) rfl ?_
              exact ⟨⟨_, rfl⟩, .inr ⟨_, trivial, hJx3⟩⟩
    · have g0 := HK.out.cell (b := Bs) (by omega) hB0 h0
      have hd : decide ((40 : Int) < (m : Int)) = false := decide_eq_false (by omega)
      clear hY hJD hJ0 ha h0 h1
      gi_wp2
      go_end0
      exact ⟨⟨_, rfl⟩, .inl ⟨_, rfl, by unfold pieces; rw [if_neg (by omega)]; exact hJs⟩⟩
theorem chunk_stops (F : Fence) (n : Nat) (h66 : F.fn 66) (hro : F.round = none) (hn : 1 ≤ n) (Bs n₀ : Nat) (S : Nat → Prop) (a : Option Addr) (m c : Nat) (hm : m ≤ 40) (hc : m ≤ c) (hBn : Bs + 1 < n₀) (hB0 : ¬ S Bs) (hB1 : ¬ S (Bs + 1)) (ha : 0 < m → ∃ b off, a = some ⟨b, off, none⟩) (w : World)
    (h0 : w.cell? ⟨Bs, 0, none⟩ = some (.slice a m c)) (h1 : w.cell? ⟨Bs + 1, 0, none⟩ = some (.int .i64 40)) :
    SeqStopsK F n Try.prog 66 #[.pointer (some ⟨Bs, 0, none⟩), .pointer (some ⟨Bs + 1, 0, none⟩)] (fun _ : Unit => #[Value.slice a m m]) (KP n₀ S) (fun ys => ys = pieces m) (fun _ => True) (pieces m).length w := fun l J Jx W hW hJ _ hY hJ0 =>
  chunk1_in F n h66 hro hn l Bs n₀ S a m c hm hc hBn hB0 hB1 ha J Jx (fun W' h => hJ [] W' W'.drew none h (grownBy_drew0 W') (fun r e => by cases e)) hY W ((hW.cell (p := ⟨Bs, 0, none⟩) (heap_lt_of_cell h0)).trans h0) ((hW.cell (p := ⟨Bs + 1, 0, none⟩) (heap_lt_of_cell h1)).trans h1) hJ0
end Go.Proofs.Ythammjpadbbflaa
