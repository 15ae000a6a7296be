/- A range over a list from behind: its contract; append of numbers within a round. -/
import Derived.RangeFuncNested
import Derived.RangeFuncBound
import Derived.RangeFuncCalls
import Derived.RangeFuncLeaves
import Derived.Shelf.Abstract
import Derived.Shelf.RegionOpen
import Derived.WalkKit
import Derived.OwnWalkIn
import Derived.TacticsInMore
import Derived.LoopNIn
import Derived.LoopIn
import Derived.Test.YtfneikphgmjfbaaDlH
namespace Go.Proofs.Ytfneikphgmjfbaa
set_option linter.unusedVariables false
set_option linter.unusedSimpArgs false
open Go.Joins Go.ChangeShapes Go.WideShapes Go.ChangeAt Go.RowKit Go.Deep Go.Shelf
attribute [local go_sem] Oper.semAt_some

/-- what lay below n, but block X, lies as it lay -/
structure KB (n X : Nat) (W W' : World) : Prop where
  os : W'.os = W.os
  tape : W'.tape = W.tape
  output : W'.output = W.output
  size : W.heap.size ≤ W'.heap.size
  block : ∀ b, b < n → b ≠ X → W'.heap[b]? = W.heap[b]?
theorem KB.refl (n X : Nat) (W : World) : KB n X W W := ⟨rfl, rfl, rfl, Nat.le_refl _, fun _ _ _ => rfl⟩
theorem KB.trans {n X : Nat} {A B C : World} (h : KB n X A B) (k : KB n X B C) : KB n X A C := ⟨k.os.trans h.os, k.tape.trans h.tape, k.output.trans h.output, Nat.le_trans h.size k.size, fun b h1 h2 => (k.block b h1 h2).trans (h.block b h1 h2)⟩
theorem KB.grown {n X : Nat} {A B C : World} {row : Option Nat} (h : KB n X A B) (hg : B.grownBy C row) (hn : n ≤ B.heap.size) (hr : ∀ r, row = some r → n ≤ r ∨ r = X) : KB n X A C :=
  h.trans ⟨hg.os, hg.tape, hg.output, hg.size, fun b h1 h2 => hg.block b (by omega) (fun e => by rcases hr b e.symm with h3 | h3 <;> omega)⟩
theorem KB.set {n X : Nat} {A B : World} (h : KB n X A B) (p : Addr) (hp : p.block = X) (u : Value) : KB n X A (B.setCell p u) :=
  h.trans ⟨((Below.refl 0 B).setCell (p := p) (Nat.zero_le _) u).os, ((Below.refl 0 B).setCell (p := p) (Nat.zero_le _) u).tape, ((Below.refl 0 B).setCell (p := p) (Nat.zero_le _) u).output, ((Below.refl 0 B).setCell (p := p) (Nat.zero_le _) u).size, fun b h1 h2 => Below.heap_setCell _ _ _ _ (by omega)⟩
theorem KB.cell {n X : Nat} {A B : World} (h : KB n X A B) {b off : Nat} {v : Value} (hb : b < n) (hx : b ≠ X) (hc : A.cell? ⟨b, off, none⟩ = some v) : B.cell? ⟨b, off, none⟩ = some v := (World.cell?_of_block (h.block b hb hx)).trans hc
theorem KB.putObj {n X : Nat} (W : World) (l : Nat) (o : Go.Obj) (hl : n ≤ l) : KB n X W (W.putObj l o) :=
  ⟨(grownBy_putObj' W l o).os, (grownBy_putObj' W l o).tape, (grownBy_putObj' W l o).output, (grownBy_putObj' W l o).size, fun b h1 h2 => World.putObj_heap_other (by omega)⟩
/-- what has come when k rounds are over -/
def upto {α : Type} (f : Nat → α) (k : Nat) : List α := (List.range k).map f
theorem upto_succ {α : Type} (f : Nat → α) (k : Nat) : upto f (k + 1) = upto f k ++ [f k] := by simp [upto, List.range_succ]
theorem upto_length {α : Type} (f : Nat → α) (k : Nat) : (upto f k).length = k := by simp [upto]
/-- the k-th from behind: its place, and what stands there -/
def backF (z : List Int) (k : Nat) : Int × Int := (((z.length - 1 - k : Nat) : Int), z.getD (z.length - 1 - k) 0)
theorem getD_of (z : List Int) (q : Nat) (h : q < z.length) : z.getD q 0 = z[q] := by simp [List.getD, List.getElem?_eq_getElem h]
theorem back_snds (z : List Int) : (upto (backF z) z.length).map (fun x => x.2) = z.reverse := by
  apply List.ext_getElem
  · simp [upto]
  · intro i h1 h2
    simp only [upto, List.length_map, List.length_range] at h1
    simp only [upto, backF, List.getElem_map, List.getElem_range, List.getElem_reverse]
    rw [getD_of _ _ (by omega)]
set_option maxRecDepth 100000 in
set_option maxHeartbeats 2000000 in
theorem back1_in (F : Fence) (n : Nat) (h54 : F.fn 54) (hro : F.round = none) (hn : 1 ≤ n) (l Bs n₀ X : Nat) (a : Option Addr) (c : Nat) (z : List Int) (hz : z.length ≤ 1000000) (hBn : Bs < n₀) (hBX : Bs ≠ X) (hab : ∀ b off, 0 < z.length → a = some ⟨b, off, none⟩ → b < n₀ ∧ b ≠ X) (J Jx : List (Int × Int) → World → Prop)
    (hY : ∀ pre x W, J pre W → pre.length < z.length → YieldAt F (n - 1) Try.prog l #[.int .i64 x.1, .int .i64 x.2] W fun e W' =>
      (e = .returned (.bool true) ∧ J (pre ++ [x]) W' ∧ KB n₀ X W W') ∨ (e = .returned (.bool false) ∧ Jx (pre ++ [x]) W'))
    (W : World) (hBs : W.cell? ⟨Bs, 0, none⟩ = some (.slice a z.length c)) (hr : Rd W a z.length (i64s z)) (h0 : J [] W) :
    CallsIn F n Try.prog 54 #[.func (.yield l) #[] #[], .pointer (some ⟨Bs, 0, none⟩)] W fun e W' => (∃ v, e = .returned v) ∧
      ((∃ ys, ys = upto (backF z) z.length ∧ J ys W') ∨ (∃ pre, True ∧ Jx pre W')) := by
  obtain ⟨len, hlen⟩ : ∃ n, z.length = n := ⟨_, rfl⟩
  have HF := Lib.hid (show ∀ q, q < len → backF z (len - (q + 1)) = ((q : Int), z.getD q 0) from fun q hq => by
    unfold backF
    rw [hlen, show len - 1 - (len - (q + 1)) = q by omega])
  have HG := Lib.hid (show ∀ q (hq : q < len), (i64s z)[q]? = some (.int .i64 (z.getD q 0)) from fun q hq => by
    rw [i64s_get z q (by omega), getD_of _ _ (by omega)])
  rw [hlen] at hz hab hY hBs hr ⊢
  have HR := Lib.hid hr
  have HAB := Lib.hid hab
  have HBS := Lib.hid hBs
  clear hr hab hlen
  refine callsIn_of_wp Try.func54 rfl h54 ?_ hro
  simp only [Try.ntmps54, List.size_toArray, List.length_cons, List.length_nil, Nat.reduceAdd, Nat.reduceSub, Array.replicate_succ, Array.replicate_zero, List.push_toArray, List.append_toArray, List.nil_append, List.cons_append]
  gi_wp2
  clear hBs
  gi_loopw [3] (fun i wr => ∃ k : Nat, k ≤ len ∧ i = .int .i64 ((k : Int) - 1) ∧ J (upto (backF z) (len - k)) wr ∧ Hid (KB n₀ X W wr))
    (fun i _ => (intOf i + 1).toNat)
  case atStart => exact ⟨len, Nat.le_refl _, rfl, by rw [Nat.sub_self]; exact h0, Lib.hid (KB.refl _ _ _)⟩
  case round =>
    obtain ⟨k, hk, rfl, hJs, HK⟩ := hrel
    rcases Nat.eq_zero_or_pos k with hk0 | hk0
    · subst hk0
      gi_wp2
      go_end0
      exact ⟨⟨_, rfl⟩, .inl ⟨_, rfl, hJs⟩⟩
    · obtain ⟨q, rfl⟩ : ∃ q, k = q + 1 := ⟨k - 1, by omega⟩
      have hq : q < len := by omega
      obtain ⟨b, off, rfl, -, hc⟩ := HR.out.at_ hq
      rw [HG.out q hq] at hc
      obtain ⟨hb1, hb2⟩ := HAB.out b off (by omega) rfl
      have hcx := HK.out.cell hb1 hb2 hc
      have hbs := HK.out.cell hBn hBX HBS.out
      have e1 : ((q + 1 : Nat) : Int) - 1 = (q : Int) := by omega
      rw [e1]
      obtain ⟨fn, tmps, assign, body, hy, hR⟩ := hY _ ((q : Int), z.getD q 0) wr hJs (by rw [upto_length]; omega)
      dsimp only at hy
      have hF := HF.out q hq
      generalize z.getD q 0 = y at hcx hy hR hF
      have HFQ := Lib.hid (show upto (backF z) (len - q) = upto (backF z) (len - (q + 1)) ++ [((q : Int), y)] by rw [← hF, ← upto_succ, show len - (q + 1) + 1 = len - q by omega])
      clear hF
      clear hc e1
      gi_wp2
      refine hR.mono ?_
      rintro e W3 (⟨rfl, hJ3, hk3⟩ | ⟨rfl, hJx3⟩)
      · gi_wp2
        go_roundw
        case rel => exact ⟨q, by omega, rfl, by rw [HFQ.out]; exact hJ3, Lib.hid (HK.out.trans hk3)⟩
        case measure => simp [intOf] <;> omega
      · gi_wp2
        refine bodyPost_ret (results_none rfl _ _ _) rfl ?_
        exact ⟨⟨_, rfl⟩, .inr ⟨_, trivial, hJx3⟩⟩
theorem back_stops (F : Fence) (n : Nat) (h54 : F.fn 54) (hro : F.round = none) (hn : 1 ≤ n) (Bs n₀ X : Nat) (a : Option Addr) (c : Nat) (z : List Int) (hz : z.length ≤ 1000000) (hBn : Bs < n₀) (hBX : Bs ≠ X) (hab : ∀ b off, 0 < z.length → a = some ⟨b, off, none⟩ → b < n₀ ∧ b ≠ X) (w : World)
    (hBs : w.cell? ⟨Bs, 0, none⟩ = some (.slice a z.length c)) (hr : Rd w a z.length (i64s z)) :
    SeqStopsK F n Try.prog 54 #[.pointer (some ⟨Bs, 0, none⟩)] (fun x : Int × Int => #[Value.int .i64 x.1, Value.int .i64 x.2]) (KB n₀ X) (fun ys => ys = upto (backF z) z.length) (fun _ => True) z.length w := fun l J Jx W hW _ _ hY h0 =>
  back1_in F n h54 hro hn l Bs n₀ X a c z hz hBn hBX hab J Jx hY W ((hW.cell (p := ⟨Bs, 0, none⟩) (heap_lt_of_cell hBs)).trans hBs) (hr.below hW) h0
theorem backward_any (a : Option Addr) (n c : Nat) (w : World) :
    Calls Try.prog 41 #[.slice a n c] w fun e w' => e = .returned (.func (.func 54) #[] #[.pointer (some ⟨w.heap.size, 0, none⟩)]) ∧ w' = w.alloc (.cells #[.slice a n c] 26) := by
  go_enter Try.func41, Try.ntmps41
  go_wp2_with fail
  go_ret
  exact ⟨rfl, rfl⟩
theorem wpListIn_app {F : Fence} {nF : Nat} (w : World) {ops : Array Oper} {rest : List Oper} {o : Oper} {a : Act} {Q : Exit → Act → World → Prop} (hgd : o.guard = none) (s x : Operand) (ho : o.op = .call { callee := .builtin .append, args := #[s, x], argTypes := #[26, 26] })
    (B : Nat) (v : Value) (n : Nat) (xs : List Int) (hs : a.eval s = v) (hown : w.ownsRow B 3 1 v n (i64s xs)) (am : Option Addr) (m c : Nat) (ys : List Int) (hx : a.eval x = .slice am m c) (hr : Rd w am m (i64s ys)) (hnm : n + m ≤ 1000000) (hB : B ≤ w.heap.size)
    (h : ∀ a' c' w', w'.ownsRow B 3 1 (.slice a' (n + m) c') (n + m) (i64s (xs ++ ys)) → w.grownBy w' v.ownBlock → ((Value.slice a' (n + m) c').ownBlock = v.ownBlock ∨ (Value.slice a' (n + m) c').ownBlock = some w.heap.size) → wpListIn F nF Try.prog ops Q rest (a.put o.dst (.slice a' (n + m) c')) w') : wpListIn F nF Try.prog ops Q (o :: rest) a w := by
  refine wpListIn_plain hgd fun K hK => ?_
  obtain ⟨a', c', w', hrun, h2, h3, h4⟩ := run_app w o.type B v n xs hown am m c ys hr hnm hB
  unfold Oper.wpIn
  refine ⟨by simp [Oper.about, ho, resolve, Target.leads, Sem.run_pure], ?_⟩
  rw [Oper.semAt_plain F _ _ (by rw [ho]; intro c hc'; cases hc')]
  simp [execOp, ho, resolve, invoke, builtin, hs, hx, hrun, Result.andThen]
  exact hK _ _ (h a' c' w' h2 h3 h4)
end Go.Proofs.Ytfneikphgmjfbaa
