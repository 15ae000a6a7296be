/- Merged: SoN SoM SoO SoP. -/
import Derived.Test.YtjefkhieihigiaaGreatTa2
import Derived.Sort.MapsRangeIn
import Derived.RangeFuncNested
import Derived.RangeFuncBound
import Derived.RangeFuncCalls
import Derived.RangeFuncLeaves
import Derived.RangeFuncGives
import Derived.Shelf.Abstract
import Derived.Shelf.RegionOpen
import Derived.WalkKit
import Derived.OwnWalkIn
import Derived.TacticsInMore
import Derived.LoopNIn
import Derived.LoopIn
import Derived.Test.YtjefkhieihigiaaGreatSoL
import Derived.Test.YtjefkhieihigiaaGreatTa4
import Derived.RangeFuncWrites
import Derived.RangeFuncBox
namespace Go.Proofs.YtjefkhieihigiaaGreat
set_option linter.unusedVariables false
set_option linter.unusedSimpArgs false
open Go.Joins Go.ChangeShapes Go.WideShapes Go.ChangeAt Go.RowKit Go.Deep Go.Shelf
attribute [local go_sem] Oper.semAt_some

/-- the keys that have come -/
structure Coll (D : DataW Unit) (left : Lit → Bool) (ss : List Nat) : Prop where
  nd : ss.Nodup
  lt : ∀ x ∈ ss, x < 18446744073709551616
  mem : ∀ x : Nat, x < 18446744073709551616 → (x ∈ ss ↔ (Maps.has D (.int .u64 (x : Int)) = true ∧ left (.int .u64 (x : Int)) = false))
theorem Coll.start (D : DataW Unit) : Coll D (Maps.has D) [] := ⟨List.nodup_nil, by simp, fun x _ => by cases Maps.has D (.int .u64 (x : Int)) <;> simp⟩
theorem Coll.step {D : DataW Unit} {left : Lit → Bool} {ss : List Nat} (h : Coll D left ss) {x : Nat} {y : DataW Unit} (hx : x < 18446744073709551616) (hlk : left (.int .u64 (x : Int)) = true) (hat : ∀ zd, D.atKey (.int .u64 (x : Int)) zd = y) : Coll D (fun z => left z && !z.sameKey (.int .u64 (x : Int))) (ss ++ [x]) := by
  have hhas : Maps.has D (.int .u64 (x : Int)) = true := Maps.has_true_of_atKey hat
  have hnew : x ∉ ss := fun hm => by have := ((h.mem x hx).1 hm).2; rw [hlk] at this; cases this
  refine ⟨List.nodup_append.2 ⟨h.nd, by simp, fun a ha b hb => by simp at hb; subst hb; exact fun e => hnew (e ▸ ha)⟩, fun z hz => ?_, fun z hz => ?_⟩
  · rcases List.mem_append.1 hz with q | q
    · exact h.lt z q
    · rw [List.mem_singleton] at q; subst q; exact hx
  · rw [List.mem_append, List.mem_singleton, h.mem z hz]
    by_cases e : z = x
    · subst e; simp [hhas, Lit.sameKey]
    · have : ¬ ((z : Int) = (x : Int)) := by omega
      simp [e, Lit.sameKey, this]
set_option maxRecDepth 100000 in
set_option maxHeartbeats 2000000 in
theorem keys_in (F : Fence) (n : Nat) (h51 : F.fn 64) (hro : F.round = none) (hn : 1 ≤ n) (l Bm b nn : Nat) (D0 : DataW Unit) (J Jx : List Nat → World → Prop)
    (hY : ∀ pre x W, J pre W → pre.length < Maps.size D0 → YieldAt F (n - 1) Tryz.prog l #[.int .u64 ((x : Nat) : Int)] W fun e W' =>
      (e = .returned (.bool true) ∧ J (pre ++ [x]) W' ∧ KeepsWalks W W') ∨ (e = .returned (.bool false) ∧ Jx (pre ++ [x]) W'))
    (W : World) (hJ : AbidesFrom W.heap.size J) (hm : W.cell? ⟨Bm, 0, none⟩ = some (.map (some b))) (hown : W.ownsMap Tryz.prog 22 pgR b nn D0) (h0 : J [] W) :
    CallsIn F n Tryz.prog 64 #[.func (.yield l) #[] #[], .pointer (some ⟨Bm, 0, none⟩)] W fun e W' => (∃ v, e = .returned v) ∧
      ((∃ xs, Coll D0 (fun _ => false) xs ∧ J xs W') ∨ (∃ pre, True ∧ Jx pre W')) := by
  refine callsIn_of_wp Tryz.func64 rfl h51 ?_ hro
  simp only [Tryz.ntmps64, List.size_toArray, List.length_cons, List.length_nil, Nat.reduceAdd, Nat.reduceSub, Array.replicate_succ, Array.replicate_zero, List.push_toArray, List.append_toArray, List.nil_append, List.cons_append]
  have HK0 := keyed
  gi_wp2_with (first
    | (gi_at_range; refine wpListIn_range_own _ rfl _ 58 rfl 22 63 keyed Tryz.underlying58 pgR b nn _ rfl hown ?_; intro w0 hrg0 hg0 hs0)
    | gi_in)
  go_frame
  gi_loopw [3] (fun _ wr => ∃ (left : Lit → Bool) (cnt : Nat) (ss : List Nat), wr.ranges Tryz.prog 22 pgR b W.heap.size nn D0 left cnt ∧ ss.length + cnt ≤ Maps.size D0 ∧ Coll D0 left ss ∧ J ss wr)
    (fun _ wr => wr.rangeLeft b W.heap.size)
  case atStart =>
    exact ⟨_, _, [], hrg0, by simp, Coll.start D0, hJ [] W w0 none h0 hg0 (fun r e => by cases e)⟩
  case round =>
    obtain ⟨left, cnt, ss, hrg, hcs, hC, hJs⟩ := hrel
    gi_wp2_with (first
      | (gi_at_next; refine wpListIn_next_ranges _ rfl _ rfl 22 keyed pgR (Value.int .u64) id (fun key kl hk => by obtain ⟨x, hx, _⟩ := Maps.keyOf_int_inv Tryz.underlying22 hk; exact ⟨x, hx⟩) (fun v _ _ => ⟨v, rfl⟩) b W.heap.size nn _ _ _ rfl hrg ?_ ?_)
      | gi_in)
    · intro hc0 hl0
      gi_wp2
      go_end0
      exact ⟨⟨_, rfl⟩, .inl ⟨ss, ⟨hC.nd, hC.lt, fun x hx => by rw [hC.mem x hx, hl0]⟩, hJs⟩⟩
    · intro x c kl yd yp w2 cnt2 hkey hlk hv hat hrg2 hlt hg2 hs2 hen
      obtain ⟨x', ex, rfl, hwf⟩ := Maps.keyOf_int_inv Tryz.underlying22 hkey
      cases ex
      obtain ⟨y, rfl⟩ : ∃ y : Nat, x = (y : Int) := ⟨x.toNat, by simp [Lit.wf, IntKind.min, IntKind.max, IntKind.signed, IntKind.bits] at hwf; omega⟩
      have hy64 : y < 18446744073709551616 := by simp [Lit.wf, IntKind.min, IntKind.max, IntKind.signed, IntKind.bits] at hwf; omega
      have hJ2 : J ss w2 := hJ ss wr w2 (some W.heap.size) hJs hg2 (fun r e => by cases e; exact ⟨Nat.le_refl _, hrg.iter_walk⟩)
      obtain ⟨fn, tmps, assign, body, hy, hR⟩ := hY ss y w2 hJ2 (by omega)
      clear hs2 hwf
      gi_wp2
      refine hR.mono ?_
      rintro e W3 (⟨rfl, hJ3, hk3⟩ | ⟨rfl, hJx3⟩)
      · gi_wp2
        have hrg3 := hrg2.of_walks hk3
        go_roundw
        case rel => exact ⟨_, cnt2, ss ++ [y], hrg3, by simp; omega, hC.step hy64 hlk hat, hJ3⟩
        case measure => rw [hrg3.left_eq, hrg.left_eq]; exact hlt
      · gi_wp2
        refine bodyPost_ret (results_none rfl _ _ _) rfl ?_
        exact ⟨⟨_, rfl⟩, .inr ⟨_, trivial, hJx3⟩⟩
theorem keys_stops (F : Fence) (n : Nat) (h51 : F.fn 64) (hro : F.round = none) (hn : 1 ≤ n) (Bm b nn : Nat) (D0 : DataW Unit) (w : World) (hBm : Bm < w.heap.size) (hm : w.cell? ⟨Bm, 0, none⟩ = some (.map (some b))) (hown : w.ownsMap Tryz.prog 22 pgR b nn D0) :
    SeqStopsK F n Tryz.prog 64 #[.pointer (some ⟨Bm, 0, none⟩)] (fun x : Nat => #[Value.int .u64 (x : Int)]) KeepsWalks (fun xs => Coll D0 (fun _ => false) xs) (fun _ => True) (Maps.size D0) w := fun l J Jx W hW hJ _ hY hJ0 =>
  keys_in F n h51 hro hn l Bm b nn D0 J Jx hY W hJ ((hW.cell (p := ⟨Bm, 0, none⟩) hBm).trans hm) (own_block hown (hW.block b hown.lt)) hJ0
theorem keys_any (b : Nat) (w : World) :
    Calls Tryz.prog 41 #[.map (some b)] w fun e w' => e = .returned (.func (.func 64) #[] #[.pointer (some ⟨w.heap.size, 0, none⟩)]) ∧ w' = w.alloc (.cells #[.map (some b)] 58) := by
  go_enter Tryz.func41, Tryz.ntmps41
  go_wp2_with fail
  go_ret
  exact ⟨rfl, rfl⟩
end Go.Proofs.YtjefkhieihigiaaGreat

namespace Go.Proofs.YtjefkhieihigiaaGreat
set_option linter.unusedVariables false
set_option linter.unusedSimpArgs false
open Go.Joins Go.ChangeShapes Go.WideShapes Go.ChangeAt Go.RowKit Go.Deep

def dOf (l : List Nat) : Array Int := (l.map fun (x : Nat) => (x : Int)).toArray
theorem dOf_size (l : List Nat) : (dOf l).size = l.length := by simp [dOf]
theorem dOf_get (l : List Nat) (j : Nat) (h : j < l.length) : (dOf l)[j]! = (l[j] : Int) := by
  unfold dOf
  rw [getElem!_pos _ j (by simpa using h)]
  simp
theorem perm_all {d d' : Array Int} (h : Sort.PermIn 0 d.size d d') : d'.toList.Perm d.toList := by
  have h3 := h.2.2
  rw [← h.1] at h3
  have e1 : d'.extract 0 d'.size = d' := by simp
  have e2 : d.extract 0 d'.size = d := by rw [h.1]; simp
  rw [e1, e2] at h3
  exact h3
theorem nat_of {l : List Nat} {d' : Array Int} (h : d'.toList.Perm (dOf l).toList) : ∃ l' : List Nat, d' = dOf l' ∧ l'.Perm l := by
  have h1 : (dOf l).toList = l.map fun (x : Nat) => (x : Int) := by simp [dOf]
  rw [h1] at h
  have h2 := h.map Int.toNat
  rw [List.map_map] at h2
  have e : (Int.toNat ∘ fun x : Nat => (x : Int)) = id := by funext x; simp
  rw [e, List.map_id] at h2
  refine ⟨_, ?_, h2⟩
  unfold dOf
  have h3 : (d'.toList.map Int.toNat).map (fun x : Nat => (x : Int)) = d'.toList := by
    rw [List.map_map]
    conv => rhs; rw [← List.map_id d'.toList]
    refine List.map_congr_left fun x hx => ?_
    obtain ⟨y, -, rfl⟩ := List.mem_map.1 (h.subset hx)
    simp
  rw [h3]
theorem rise_of {l : List Nat} (h : Sort.SortedIn ltI 0 (dOf l).size (dOf l)) (hn : l.Nodup) : Rise l := by
  refine List.pairwise_iff_getElem.2 fun i j hi hj hij => ?_
  have h1 := h i j (Nat.zero_le _) hij (by rw [dOf_size]; exact hj)
  rw [dOf_get _ _ hi, dOf_get _ _ hj] at h1
  have h2 : ¬ (l[j] : Int) < (l[i] : Int) := of_decide_eq_false h1
  have h3 : l[i] ≠ l[j] := fun e => by
    have := (List.nodup_iff_pairwise_ne.1 hn)
    exact List.pairwise_iff_getElem.1 this i j hi hj hij e
  omega
theorem sw_own {W W' : World} {B g cap : Nat} {l : List Nat} (hB : B ≤ g) (hc : cap ≤ maxLen) (h : Sw W g cap 22 (dOf l) W') : W'.ownsRow B 22 1 (.slice (some ⟨g, 0, none⟩) l.length cap) l.length (u64s l) := by
  obtain ⟨cur, hb, hs, hj⟩ := h.blk
  have hsz := h.sz
  rw [dOf_size] at hsz
  refine ⟨by simp [u64s], .inr ⟨g, cap, cur, rfl, hB, hb, hsz, hc, by omega, ?_⟩⟩
  rw [Nat.mul_one]
  refine List.ext_getElem? fun j => ?_
  by_cases hlt : j < l.length
  · rw [List.getElem?_take_of_lt hlt, Array.getElem?_toList, hj j (by rw [dOf_size]; exact hlt), dOf_get _ _ hlt]
    simp [u64s, hlt]
  · rw [List.getElem?_eq_none (by rw [List.length_take]; omega), List.getElem?_eq_none (by simp [u64s]; omega)]
theorem own_sw {W : World} {B g cap n : Nat} {l : List Nat} (hn : l.length = n) (h : W.ownsRow B 22 1 (.slice (some ⟨g, 0, none⟩) n cap) n (u64s l)) : Sw W g cap 22 (dOf l) W ∧ B ≤ g ∧ cap ≤ maxLen := by
  rcases h.2 with ⟨h0, _⟩ | ⟨g', cap', cur, hv, hg, hb, hnc, hcm, hs, ht⟩
  · cases h0
  · cases hv
    refine ⟨Sw.start ⟨cur, hb, by omega, fun j hj => ?_⟩ (by rw [dOf_size]; omega), hg, hcm⟩
    rw [dOf_size] at hj
    have h1 : (cur.toList.take (n * 1))[j]? = (u64s l)[j]? := by rw [ht]
    rw [List.getElem?_take_of_lt (by omega), Array.getElem?_toList] at h1
    rw [h1, dOf_get _ _ hj]
    simp [u64s, hj]
theorem sortU_any (W : World) (B g cap n : Nat) (l : List Nat) (hln : l.length = n) (h : W.ownsRow B 22 1 (.slice (some ⟨g, 0, none⟩) n cap) n (u64s l)) (hn : n < 100000) (hnd : l.Nodup) :
    Calls Tryz.prog 63 #[.slice (some ⟨g, 0, none⟩) n cap] W fun e W' => e = .returned (.tuple #[]) ∧ ∃ l', l'.Perm l ∧ Rise l' ∧ W'.ownsRow B 22 1 (.slice (some ⟨g, 0, none⟩) n cap) n (u64s l') ∧ KP W.heap.size (· = g) W W' := by
  obtain ⟨S, hB, hcm⟩ := own_sw hln h
  obtain ⟨k, hk, hk20⟩ : ∃ k, Lib.bitLen n = k ∧ k ≤ 1000 := by
    rcases Nat.eq_zero_or_pos n with h0 | h0
    · subst h0; exact ⟨0, rfl, by omega⟩
    · obtain ⟨k, h1, h2, -⟩ := bitLen_two n h0 (by omega)
      exact ⟨k, h1, by omega⟩
  have HL := Lib.hid (fun w => Tryz.bits_Len (n : Int) w (by omega) (by omega))
  rw [Int.toNat_natCast, hk] at HL
  have HP := pdq_any W g cap 22 n hn (n + 1) 0 n k (dOf l) W (by omega) S (by rw [dOf_size, hln]) (by omega) hk20 (Or.inl rfl)
  rw [Nat.zero_add, show ((0 : Nat) : Int) = 0 from rfl] at HP
  have HP2 := Lib.hid HP
  have HND := Lib.hid hnd
  have HLN := Lib.hid hln
  clear h S hk HP hnd hln
  go_enter Tryz.func63, Tryz.ntmps63
  go_wp2_with fail
  refine (HL.out _).mono ?_
  rintro e W1 ⟨rfl, rfl⟩
  go_wp2_with fail
  refine HP2.out.mono ?_
  rintro e W2 ⟨rfl, d', hp, hs, S2⟩
  have hps : Sort.PermIn 0 (dOf l).size (dOf l) d' := by rw [dOf_size, HLN.out]; exact hp
  obtain ⟨l', rfl, hpl⟩ := nat_of (perm_all hps)
  have hll : l'.length = n := by rw [hpl.length_eq, HLN.out]
  have hown := sw_own (B := B) hB hcm S2
  rw [hll] at hown
  have hkp := S2.kp
  have hri := rise_of (l := l') (by rw [dOf_size, hll]; exact hs) (hpl.nodup_iff.2 HND.out)
  have R1 := Lib.hid hpl
  have R2 := Lib.hid hown
  have R3 := Lib.hid hkp
  have R4 := Lib.hid hri
  clear hown hkp hri hpl hp hs hps S2
  go_wp2_with fail
  go_end0
  exact ⟨rfl, l', R1.out, R4.out, R2.out, R3.out⟩
theorem insU_nil (W : World) : Calls Tryz.prog 88 #[.slice none 0 0, .int .i64 0, .int .i64 0] W fun e W' => e = .returned (.tuple #[]) ∧ W = W' := by
  go_enter Tryz.func88, Tryz.ntmps88
  go_wp2
  go_loopw [6] (fun vi wr => vi = .int .i64 1 ∧ W = wr) (fun _ _ => 0)
  case atStart => exact ⟨rfl, rfl⟩
  case round =>
    obtain ⟨rfl, rfl⟩ := hrel
    go_wp2
    go_end0
    exact ⟨rfl, rfl⟩
theorem pdqU_nil (W : World) : Calls Tryz.prog 80 #[.slice none 0 0, .int .i64 0, .int .i64 0, .int .i64 0] W fun e W' => e = .returned (.tuple #[]) ∧ W = W' := by
  have HI := Lib.hid (insU_nil W)
  go_enter Tryz.func80, Tryz.ntmps80
  go_wp2
  go_loopw [1, 2] (fun v1 v2 wr => v1 = .int .i64 0 ∧ v2 = .int .i64 0 ∧ W = wr) (fun _ _ _ => 0)
  case atStart => exact ⟨rfl, rfl, rfl⟩
  case round =>
    obtain ⟨rfl, rfl, rfl⟩ := hrel
    go_wp2_with fail
    refine HI.out.mono ?_
    rintro e W1 ⟨rfl, rfl⟩
    go_wp2_with fail
    (try simp only [Exit.inBlock, Exit.then]); refine bodyPost_ret (results_none rfl _ _ _) rfl ?_
    exact ⟨rfl, rfl⟩
theorem sortU_nil (W : World) : Calls Tryz.prog 63 #[.slice none 0 0] W fun e W' => e = .returned (.tuple #[]) ∧ W = W' := by
  have HL := Lib.hid (fun w => Tryz.bits_Len (0 : Int) w (by omega) (by omega))
  rw [show (Lib.bitLen (0 : Int).toNat) = 0 from rfl] at HL
  have HP := Lib.hid (pdqU_nil W)
  go_enter Tryz.func63, Tryz.ntmps63
  go_wp2_with fail
  refine (HL.out _).mono ?_
  rintro e W1 ⟨rfl, rfl⟩
  go_wp2_with fail
  refine HP.out.mono ?_
  rintro e W2 ⟨rfl, rfl⟩
  go_wp2_with fail
  go_end0
  exact ⟨rfl, rfl⟩
end Go.Proofs.YtjefkhieihigiaaGreat

namespace Go.Proofs.YtjefkhieihigiaaGreat
set_option linter.unusedVariables false
set_option linter.unusedSimpArgs false
open Go.Joins Go.ChangeShapes Go.WideShapes Go.ChangeAt Go.RowKit Go.Deep Go.Shelf
attribute [local go_sem] Oper.semAt_some

theorem leaves_plain {R : Ending → World → Prop} {fn : Func} {tmps : Array Value} {w : World} {v : Value} (h1 : (results fn tmps).run Tryz.prog w = .ok v w) (h2 : R (.returned v) w) : LeavesInM Fence.wide 9 Tryz.prog fn tmps R [] .returning w := ⟨v, h1, h2⟩
theorem wpListIn_appE {P : Program} {F : Fence} {nF : Nat} (sl el : TypeId) (z : Value) (k bytes : Nat) (hu : P.underlying sl = some (.slice el)) (hinfo : (P.info? el).map (fun i => (i.zero, i.size, i.bytes)) = some (some z, k, bytes)) (hzs : z.cells.size = k) (hk : 0 < k) (hby : bytes ≤ 1000)
    (w : World) {ops : Array Oper} {rest : List Oper} {o : Oper} {a : Act} {Q : Exit → Act → World → Prop} (hgd : o.guard = none) (s x : Operand) (ho : o.op = .call { callee := .builtin .append, args := #[s, x], argTypes := #[sl, sl] })
    (B : Nat) (v : Value) (n : Nat) (xs : List Value) (hs : a.eval s = v) (hown : w.ownsRow B el k v n xs) (am : Option Addr) (m c : Nat) (ys : List Value) (hx : a.eval x = .slice am m c) (hr : Rd w am (m * k) ys) (hone : ∀ u ∈ ys, u.oneCell' = true) (hnm : n + m ≤ 1000000) (hB : B ≤ w.heap.size)
    (h : ∀ a' c' w', w'.ownsRow B el k (.slice a' (n + m) c') (n + m) (xs ++ ys) → w.grownBy w' v.ownBlock → ((Value.slice a' (n + m) c').ownBlock = v.ownBlock ∨ (Value.slice a' (n + m) c').ownBlock = some w.heap.size) → wpListIn F nF P ops Q rest (a.put o.dst (.slice a' (n + m) c')) w') : wpListIn F nF P ops Q (o :: rest) a w := by
  refine wpListIn_plain hgd fun K hK => ?_
  obtain ⟨a', c', w', hrun, h2, h3, h4⟩ := run_appE sl el z k bytes hu hinfo hzs hk hby w o.type B v n xs hown am m c ys hr hone hnm hB
  unfold Oper.wpIn
  refine ⟨by simp [Oper.about, ho, resolve, Target.leads, Sem.run_pure], ?_⟩
  rw [Oper.semAt_plain F _ _ (by rw [ho]; intro c hc'; cases hc')]
  simp [execOp, ho, resolve, invoke, builtin, hs, hx, hrun, Result.andThen]
  exact hK _ _ (h a' c' w' h2 h3 h4)
theorem own_keptE {W W' : World} {B k n : Nat} {e : TypeId} {v : Value} {xs : List Value} {row : Option Nat} (h : W.ownsRow B e k v n xs) (hg : W.grownBy W' row) (hr : ∀ r, row = some r → ∃ o : Go.Obj, W.heap[r]? = some o ∧ o.isCells = false) : W'.ownsRow B e k v n xs := by
  refine h.kept hg ?_
  rcases h.2 with ⟨rfl, _⟩ | ⟨g, cap, cur, rfl, _, hgb, _⟩
  · exact .inl rfl
  · refine .inr fun e' => ?_
    obtain ⟨o, ho, hc⟩ := hr g e'.symm
    rw [hgb] at ho
    cases ho
    cases hc
theorem own_isCellsE {W : World} {B k n : Nat} {e : TypeId} {v : Value} {xs : List Value} (h : W.ownsRow B e k v n xs) (j : Nat) (o : Go.Obj) (e' : v.ownBlock = some j) (ho : W.heap[j]? = some o) : o.isCells = true := by
  rcases h.2 with ⟨rfl, _⟩ | ⟨g, cap, cur, rfl, _, hgb, _⟩
  · cases e'
  · cases e'
    rw [hgb] at ho
    cases ho
    rfl
theorem own_isWalkE {W : World} {B k n : Nat} {e : TypeId} {v : Value} {xs : List Value} (h : W.ownsRow B e k v n xs) (j : Nat) (o : Go.Obj) (e' : v.ownBlock = some j) (ho : W.heap[j]? = some o) : o.isWalk = false := by
  rcases h.2 with ⟨rfl, _⟩ | ⟨g, cap, cur, rfl, _, hgb, _⟩
  · cases e'
  · cases e'
    rw [hgb] at ho
    cases ho
    rfl
/-- between two rounds: the box has what has come -/
def BoxI (W0 : World) (pre : List Nat) (W : World) : Prop :=
  (∃ (a6 : Option Addr) (c6 : Nat), W.cell? ⟨W0.heap.size, 0, none⟩ = some (.slice a6 pre.length c6) ∧ W.ownsRow (W0.heap.size + 1) 22 1 (.slice a6 pre.length c6) pre.length (u64s pre)) ∧ W.frozen? ⟨W0.heap.size, 0, none⟩ = false ∧ Below W0.heap.size W0 W ∧ W0.heap.size < W.heap.size
theorem boxI_own (W0 : World) (B : Nat) (hB : W0.heap.size ≤ B) : OwnFrom B (BoxI W0) := by
  rintro pre A C row ⟨⟨a6, c6, h1, h3⟩, h4, h5, h6⟩ hg hr
  have hr' : ∀ r, row = some r → ∃ o : Go.Obj, A.heap[r]? = some o ∧ o.isCells = false := fun r e => (hr r e).2
  exact ⟨⟨a6, c6, cell_kept h1 hg hr', own_keptE h3 hg hr'⟩, (frozen_kept h1 hg hr').trans h4, h5.grown hg h5.size (fun r e => Nat.le_trans hB (hr r e).1), Nat.lt_of_lt_of_le h6 hg.size⟩
theorem never_ownN (B : Nat) (c : Code) : OwnFrom B (fun (_ : List Nat) (_ : World) => False) := fun _ _ _ _ h _ _ => h
theorem rd_u64 (w : World) (y : Nat) (t : TypeId) : Rd (w.alloc (.cells #[.int .u64 (y : Int)] t)) (some ⟨w.heap.size, 0, none⟩) 1 (u64s [y]) := Rd.lit w #[.int .u64 (y : Int)] t (by show 1 ≤ maxLen; decide)
set_option maxRecDepth 100000 in
set_option maxHeartbeats 4000000 in
theorem appendSeq_any (Bm b nn : Nat) (D0 : DataW Unit) (w : World) (hBm : Bm < w.heap.size) (hm : w.cell? ⟨Bm, 0, none⟩ = some (.map (some b))) (hown : w.ownsMap Tryz.prog 22 pgR b nn D0) (hsz : Maps.size D0 ≤ 100000) :
    Calls Tryz.prog 79 #[.slice none 0 0, .func (.func 64) #[] #[.pointer (some ⟨Bm, 0, none⟩)]] w fun e w' => ∃ (xs : List Nat) (a : Option Addr) (c : Nat), e = .returned (.slice a xs.length c) ∧ Coll D0 (fun _ => false) xs ∧ w'.ownsRow w.heap.size 22 1 (.slice a xs.length c) xs.length (u64s xs) ∧ Below w.heap.size w w' := by
  have HKS := Lib.hid (keys_stops Fence.wide 8 trivial rfl (by decide) Bm b nn D0 w hBm hm hown)
  have HSZ := Lib.hid hsz
  clear hm hown hsz
  refine (callsIn_wide (n := 9)).1 ?_
  refine callsIn_of_wp_marks Tryz.func79 rfl trivial ?_ rfl
  simp only [Tryz.ntmps79, List.size_toArray, List.length_cons, List.length_nil, Nat.reduceAdd, Nat.reduceSub, Array.replicate_succ, Array.replicate_zero, List.push_toArray, List.append_toArray, List.nil_append, List.cons_append]
  refine wpIn_wide.2 ?_
  go_wp2_with fail
  have hI0 : BoxI w [] (w.alloc (.cells #[.slice none 0 0] 45)) :=
    ⟨⟨none, 0, (BoxN.new w #[.slice none 0 0] 45).cell 0, World.ownsRow_nil _ _ _ _⟩, (BoxN.new w #[.slice none 0 0] 45).frozen 0, bAlloc (Below.refl _ _) _, by rw [size_alloc]; omega⟩
  have hb0 : Below w.heap.size w (w.alloc (.cells #[.slice none 0 0] 45)) := bAlloc (Below.refl _ _) _
  have hz0 : (w.alloc (.cells #[.slice none 0 0] 45)).heap.size = w.heap.size + 1 := size_alloc _ _
  generalize w.alloc (.cells #[.slice none 0 0] 45) = W0 at hI0 hb0 hz0 ⊢
  refine (wpIn_wide (n := 9)).1 ?_
  refine wpIn_rangeFunc_ownG rfl (by decide) (gf := 64) (lb := #[.pointer (some ⟨Bm, 0, none⟩)]) rfl trivial (enters_of Tryz.func64 (by kernel_rfl) rfl) HKS.out (fun h k => h.trans k) (fun W l o o' hl h1 h2 h3 => KeepsWalks.putObj o' h1 h3) hb0 (fun _ => rfl)
    (BoxI w) (fun _ _ _ => False) (boxI_own w _ (by omega)) (fun c => never_ownN _ c) hI0
    (fun x => { tmps := #[.slice none 0 0, .func (.func 64) #[] #[.pointer (some ⟨Bm, 0, none⟩)], .pointer (some ⟨w.heap.size, 0, none⟩), undef, .slice none 0 0, .int .u64 (x : Int), .func (.func 64) #[] #[.pointer (some ⟨Bm, 0, none⟩)], .int .u64 (x : Int), undef, undef, undef, undef, undef], defers := [] }) ?assign ?body ?done ?stop
  case assign =>
    intro l x W K hK
    gi_wp2
    exact hK
  case body =>
    rintro lp pre x W ⟨⟨a6, c6, v1, v3⟩, v4, v5, v6⟩ hpre
    have hmm : pre.length ≤ 100000 := by have := HSZ.out; omega
    have V3 := Lib.hid v3
    have V5 := Lib.hid v5
    have hb5 := v5.size
    clear v3 v5
    gi_wp2_with (gi_at_builtin; refine wpListIn_appE 45 22 (.int .u64 0) 1 8 Tryz.underlying45 infoU64 rfl (by decide) (by decide) _ rfl _ _ rfl (w.heap.size + 1) (.slice a6 pre.length c6) pre.length (u64s pre) rfl (V3.out.alloc _) (some ⟨W.heap.size, 0, none⟩) 1 1 (u64s [x]) rfl (rd_u64 W x 22) (fun u hu => by simp [u64s] at hu; subst hu; rfl) (by omega) (by simp; omega) ?_; intro a' c' w2 hown2 hgrow2 hat2; have HO2 := Lib.hid hown2; have HG2 := Lib.hid hgrow2; have hf2 : w2.heap[w.heap.size]? = W.heap[w.heap.size]? := (hgrow2.block _ (by simp; omega) (fun e => by have := (V3.out.lt _ e.symm).1; omega)).trans (Below.heap_alloc _ _ _ v6); have g1 := (World.cell?_of_block (a := ⟨w.heap.size, 0, none⟩) hf2).trans v1; have g2 := (World.frozen?_of_block (a := ⟨w.heap.size, 0, none⟩) hf2).trans v4; clear hown2 hgrow2 hat2 hf2)
    have hbw : Below w.heap.size w (w2.setCell ⟨w.heap.size, 0, none⟩ (.slice a' (pre.length + 1) c')) := ((V5.out.alloc hb5 _).grown HG2.out (by simp; omega) (fun r e => by have := (V3.out.lt r e).1; omega)).setCell (p := ⟨w.heap.size, 0, none⟩) (Nat.le_refl _) _
    have hs2 : w2.heap.size ≥ W.heap.size + 1 := by have := HG2.out.size; rw [size_alloc] at this; exact this
    have hkw : KeepsWalks W (w2.setCell ⟨w.heap.size, 0, none⟩ (.slice a' (pre.length + 1) c')) := ((KeepsWalks.alloc W _).trans (KeepsWalks.of_grownBy HG2.out (fun j o e ho => own_isWalkE (V3.out.alloc _) j o e ho))).trans (KeepsWalks.setCell _ _ _)
    refine ⟨(((KeepsOthers.alloc W _).trans (KeepsOthers.of_grownBy HG2.out (fun j o e ho => own_isCellsE (V3.out.alloc _) j o e ho))).trans (KeepsOthers.setCell _ _ _)).from _, hkw, ⟨⟨a', c', by rw [List.length_append]; exact World.cell?_setCell_same _ _ _ g1, ?_⟩, by rw [World.frozen?_setCell]; exact g2, hbw, by simp; omega⟩⟩
    rw [List.length_append, show u64s (pre ++ [x]) = u64s pre ++ u64s [x] by simp [u64s]]
    exact own_kp2 HO2.out ((KP.refl w2.heap.size (· = w.heap.size) w2).set ⟨w.heap.size, 0, none⟩ (Or.inr rfl) _) (fun q hq e => by have h1 : q = w.heap.size := e; omega)
  case done =>
    rintro D ys W hD hC ⟨⟨a6, c6, v1, v3⟩, v4, v5, v6⟩ hKD
    have V3 := Lib.hid v3
    have V5 := Lib.hid v5
    have HC := Lib.hid hC
    have HKD := Lib.hid hKD
    clear v3 v5 hC hKD
    go_wp2_with fail
    refine ⟨by simp, .inl ⟨D, _, rfl, run_takeDeferred HKD.out, ?_⟩⟩
    have kc : (W.putObj D (.deferred none)).cell? ⟨w.heap.size, 0, none⟩ = some (.slice a6 ys.length c6) := cell_kept (row := some D) v1 (grownBy_putObj' W D (.deferred none)) (fun r e => by cases e; exact ⟨_, HKD.out, rfl⟩)
    refine leaves_plain (v := .slice a6 ys.length c6) ?_ ⟨ys, a6, c6, rfl, HC.out, own_base (own_keptE V3.out (grownBy_putObj' W D (.deferred none)) (fun r e => by cases e; exact ⟨_, HKD.out, rfl⟩)) (by omega), V5.out.trans (belowK_b (w := w) (Nat.le_refl _) _ D _ _ (by omega) HKD.out rfl rfl)⟩
    simp [results, Tryz.results79, go_sem]
  case stop =>
    rintro D c pre W _ _ h _
    exact h.elim
end Go.Proofs.YtjefkhieihigiaaGreat

namespace Go.Proofs.YtjefkhieihigiaaGreat
set_option linter.unusedVariables false
set_option linter.unusedSimpArgs false
open Go.Joins Go.ChangeShapes Go.WideShapes Go.ChangeAt Go.RowKit Go.Deep

theorem collect_any (Bm b nn : Nat) (D0 : DataW Unit) (w : World) (hBm : Bm < w.heap.size) (hm : w.cell? ⟨Bm, 0, none⟩ = some (.map (some b))) (hown : w.ownsMap Tryz.prog 22 pgR b nn D0) (hsz : Maps.size D0 ≤ 100000) :
    Calls Tryz.prog 62 #[.func (.func 64) #[] #[.pointer (some ⟨Bm, 0, none⟩)]] w fun e w' => ∃ (xs : List Nat) (a : Option Addr) (c : Nat), e = .returned (.slice a xs.length c) ∧ Coll D0 (fun _ => false) xs ∧ w'.ownsRow w.heap.size 22 1 (.slice a xs.length c) xs.length (u64s xs) ∧ Below w.heap.size w w' := by
  have H := Lib.hid (appendSeq_any Bm b nn D0 w hBm hm hown hsz)
  clear hm hown
  go_enter Tryz.func62, Tryz.ntmps62
  go_wp2_with fail
  refine H.out.mono ?_
  rintro e w1 ⟨xs, a, c, rfl, h1, h2, h3⟩
  go_wp2_with fail
  go_ret
  exact ⟨xs, a, c, rfl, h1, h2, h3⟩
/-- a row of one's own is sorted, whatever it is -/
theorem sort_row (W : World) (B n : Nat) (a : Option Addr) (c : Nat) (l : List Nat) (hln : l.length = n) (h : W.ownsRow B 22 1 (.slice a n c) n (u64s l)) (hn : n < 100000) (hnd : l.Nodup) :
    Calls Tryz.prog 63 #[.slice a n c] W fun e W' => e = .returned (.tuple #[]) ∧ ∃ l', l'.Perm l ∧ Rise l' ∧ W'.ownsRow B 22 1 (.slice a n c) n (u64s l') ∧ Below B W W' := by
  rcases h.2 with ⟨hv, h0⟩ | ⟨g, cap, cur, hv, hg, hb, r⟩
  · cases hv
    have hl : l = [] := List.length_eq_zero_iff.1 hln
    subst hl
    refine (sortU_nil W).mono ?_
    rintro e W' ⟨rfl, rfl⟩
    exact ⟨rfl, [], List.Perm.refl _, List.Pairwise.nil, h, Below.refl _ _⟩
  · cases hv
    refine (sortU_any W B g c n l hln h hn hnd).mono ?_
    rintro e W' ⟨rfl, l', h1, h2, h3, h4⟩
    have hl : g < W.heap.size := (Array.getElem?_eq_some_iff.1 hb).1
    exact ⟨rfl, l', h1, h2, h3, h4.os, h4.tape, h4.output, h4.size, fun b hb => h4.block b (by omega) (by show ¬ b = g; omega)⟩
theorem sorted_any (Bm b nn : Nat) (D0 : DataW Unit) (w : World) (hBm : Bm < w.heap.size) (hm : w.cell? ⟨Bm, 0, none⟩ = some (.map (some b))) (hown : w.ownsMap Tryz.prog 22 pgR b nn D0) (hsz : Maps.size D0 ≤ 100000) (l : List Nat) (hr : Rise l) (hlt : ∀ p ∈ l, p < 65536) (hl : l.length ≤ 256) (hmem : ∀ p : Nat, p < 18446744073709551616 → Maps.has D0 (.int .u64 (p : Int)) = decide (p ∈ l)) :
    Calls Tryz.prog 40 #[.func (.func 64) #[] #[.pointer (some ⟨Bm, 0, none⟩)]] w fun e w' => ∃ (a : Option Addr) (c : Nat), e = .returned (.slice a l.length c) ∧ w'.ownsRow w.heap.size 22 1 (.slice a l.length c) l.length (u64s l) ∧ Below w.heap.size w w' := by
  have H := Lib.hid (collect_any Bm b nn D0 w hBm hm hown hsz)
  have HM := Lib.hid hmem
  have HLT := Lib.hid hlt
  have HR := Lib.hid hr
  clear hm hown hmem hlt hr
  go_enter Tryz.func40, Tryz.ntmps40
  go_wp2_with fail
  refine H.out.mono ?_
  rintro e w1 ⟨xs, a, c, rfl, h1, h2, h3⟩
  have hx : ∀ x, x ∈ xs ↔ x ∈ l := fun x => by
    constructor
    · intro hx
      have := (h1.mem x (h1.lt x hx)).1 hx
      rw [HM.out x (h1.lt x hx)] at this
      exact of_decide_eq_true this.1
    · intro hx
      have h6 : x < 18446744073709551616 := by have := HLT.out x hx; omega
      exact (h1.mem x h6).2 ⟨by rw [HM.out x h6]; exact decide_eq_true hx, rfl⟩
  have hxl : xs.length ≤ 256 := Nat.le_trans (nodup_len h1.nd (fun x hx' => (hx x).1 hx')) hl
  have HS := Lib.hid (sort_row w1 w.heap.size xs.length a c xs rfl h2 (by omega) h1.nd)
  have HX := Lib.hid hx
  have HB := Lib.hid h3
  clear h1 h2 h3 hx
  go_wp2_with fail
  refine HS.out.mono ?_
  rintro e w2 ⟨rfl, l', hp, hri, ho, hb⟩
  have hll : l' = l := rise_ext hri HR.out fun x => (hp.mem_iff).trans (HX.out x)
  subst hll
  have hlen : xs.length = l'.length := hp.length_eq.symm
  rw [hlen] at ho ⊢
  have HO := Lib.hid ho
  have HB2 := Lib.hid (HB.out.trans hb)
  clear ho hb hlen
  go_wp2_with fail
  go_ret
  exact ⟨a, c, rfl, HO.out, HB2.out⟩
theorem pages_any (W : World) (M B : Nat) (D : DataW Unit) (pb : Nat → Nat) (F : Nat → Prop) (m : Mm) (h : MemO W M B D pb F m) :
    Calls Tryz.prog 13 #[.pointer (some ⟨M, 0, none⟩)] W fun e W' => ∃ (a : Option Addr) (c : Nat), e = .returned (.slice a m.pgs.length c) ∧ W'.ownsRow W.heap.size 22 1 (.slice a m.pgs.length c) m.pgs.length (u64s m.pgs) ∧ Below W.heap.size W W' := by
  have c0 : W.cell? ⟨M, 0, none⟩ = some (.map (some B)) := h.box.cell 0
  have hb1 : Below W.heap.size W (W.alloc (.cells #[.map (some B)] 58)) := bAlloc (Below.refl _ _) _
  have hl := h.ok.len
  have hbd := h.ok.bud
  have hz : (W.alloc (.cells #[.map (some B)] 58)).heap.size = W.heap.size + 1 := size_alloc _ _
  have HS := Lib.hid (sorted_any W.heap.size B m.pgs.length D (W.alloc (.cells #[.map (some B)] 58)) (by omega) ((BoxN.new W #[.map (some B)] 58).cell 0) (own_block h.own (hb1.block B (h.lt B h.fb))) (by rw [h.says.size]; omega) m.pgs h.ok.pr h.ok.pl (by omega) h.says.has)
  have HB := Lib.hid hb1
  clear h hb1
  go_enter Tryz.func13, Tryz.ntmps13
  go_wp2_with (go_at_call 41; refine (keys_any B W).mono ?_; rintro e w1 ⟨rfl, rfl⟩)
  refine HS.out.mono ?_
  rintro e w2 ⟨a, c, rfl, ho, hb⟩
  have HO := Lib.hid (own_base ho (show W.heap.size ≤ _ by rw [hz]; omega))
  have HB2 := Lib.hid (HB.out.trans (hb.mono (by rw [hz]; omega)))
  clear ho hb
  go_wp2_with fail
  go_ret
  exact ⟨a, c, rfl, HO.out, HB2.out⟩
end Go.Proofs.YtjefkhieihigiaaGreat

