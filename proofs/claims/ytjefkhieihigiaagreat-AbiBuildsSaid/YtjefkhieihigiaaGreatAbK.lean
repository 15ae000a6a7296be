/- What a program's beginning needs. -/
import Derived.Test.YtjefkhieihigiaaGreatAbR
import Derived.Test.YtjefkhieihigiaaGreatAbH
import Derived.Deep.AppendSrc
import Derived.WalkMore
import Derived.Deep.DeepAppendWide
namespace Go.Proofs.YtjefkhieihigiaaGreat
set_option linter.unusedVariables false
set_option linter.unusedSimpArgs false
open Go.Joins Go.ChangeShapes Go.WideShapes Go.ChangeAt Go.RowKit Go.Deep

theorem run_append_make (W : World) (ty : TypeId) (n : Nat) (h0 : 0 < n) (h1 : n ≤ 1000) :
    ∃ c W' cur, (Builtin.append_ #[23, 3] ty #[.slice none 0 0, .int .i64 (n : Int)]).run Tryz.prog W = .ok (.slice (some ⟨W.heap.size, 0, none⟩) n c) W' ∧ n ≤ c ∧ c ≤ maxLen ∧ W'.heap[W.heap.size]? = some (.cells cur 9 (0, 0)) ∧ cur.size = c ∧ Below W.heap.size W W' := by
  obtain ⟨i0, hi, hz0, hz1, hz2⟩ := info_parts infoStr
  have ht : Tryz.prog.underlying 23 = some (.slice 9) := Tryz.underlying23
  have hk : Tryz.prog.underlying 3 = some (.int .i64) := Tryz.underlying3
  have hw : IntKind.i64.wrap (n : Int) = (n : Int) := by rw [IntKind.wrap_i64]; omega
  have hfit : Builtin.nextslicecap n 0 * i0.bytes ≤ 281474976710656 := growslice_fits_wide (by omega) (by rw [hz2]; omega)
  have hge := grownCap_ge W n 0 9
  have hle := grownCap_le_maxLen W n 0 9 (by unfold maxLen; omega)
  obtain ⟨c, hc⟩ : ∃ c, grownCap W n 0 9 = c := ⟨_, rfl⟩
  obtain ⟨cur, hcur⟩ : ∃ cur, Builtin.zeroCells (Value.string ⟨#[]⟩).cells n ++ Builtin.zeroCells (Value.string ⟨#[]⟩).cells (c - n) = cur := ⟨_, rfl⟩
  rw [hc] at hge hle
  have hsz : cur.size = c := by
    rw [← hcur, Array.size_append]
    have h1 : (Value.string ⟨#[]⟩).cells.size = 1 := rfl
    simp [Builtin.zeroCells, h1]
    omega
  refine ⟨c, W.drew.alloc (.cells cur 9), cur, ?_, hge, hle, heap_alloc_new W.drew _, hsz, (Below.drew (Below.refl _ _)).alloc (Nat.le_refl _) _⟩
  have h2 : ¬ n ≤ 0 := by omega
  have h3 : ¬ ((n : Int) < 0) := by omega
  have hgc : (Question.appendCap n 0 9).cut (W.tape W.drawn (Question.appendCap n 0 9)) = c := hc
  rw [← hcur]
  rw [hz2] at hfit
  have h4 : ¬ (281474976710656 < (n : Int) * 16) := by omega
  have h5 : ¬ ((n : Int) ≤ 0) := by omega
  have h6 : ¬ (9223372036854775807 < (n : Int)) := by omega
  have h7 : ¬ (281474976710656 < Builtin.nextslicecap n 0 * 16) := by omega
  have h8 : n ≠ 0 := by omega
  have h9 : max (n : Int) 0 = (n : Int) := by omega
  have hai : (asIntOf (.int .i64 (n : Int))).run Tryz.prog W = .ok (.i64, (n : Int)) W := rfl
  simp [Builtin.append_, run_underlying ht, run_underlying hk, sizeOf, typeInfo, zeroValue, hi, hz0, hz1, hz2, hai, hw, h2, h3, h4, h5, h6, h7, h8, h9, Question.forced, newRow, hgc, asInt, Builtin.firstCells]
theorem wpList_appM {P : Program} {t u : TypeId} (w : World) {ops : Array Oper} {rest : List Oper} {o : Oper} {a : Act} {Q : Exit → Act → World → Prop} (hgd : o.guard = none) (s x : Operand) (ho : o.op = .call { callee := .builtin .append, args := #[s, x], argTypes := #[t, u] }) (sv xv r : Value) (W' : World) (hs : a.eval s = sv) (hx : a.eval x = xv)
    (hrun : (Builtin.append_ #[t, u] o.type #[sv, xv]).run P w = .ok r W') (h : wpList P ops Q rest (a.put o.dst r) W') : wpList P ops Q (o :: rest) a w := by
  refine wpList_plain hgd fun K hK => ?_
  unfold Oper.wp execOp
  simp only [ho, resolve, invoke, builtin, Sem.run_bind, Sem.run_pure, Result.andThen_ok, List.map_toArray, List.map_cons, List.map_nil, hs, hx, hrun]
  exact hK _ _ h
set_option maxRecDepth 100000 in
set_option maxHeartbeats 1000000 in
theorem grow_any (n : Nat) (W : World) (hn : n ≤ 1000) :
    Calls Tryz.prog 48 #[.slice none 0 0, .int .i64 (n : Int)] W fun e W' => ∃ v, e = .returned v ∧ W'.ownsRow W.heap.size 9 1 v 0 [] ∧ Below W.heap.size W W' := by
  have hw0 : IntKind.i64.wrap ((0 : Int) - 0) = 0 := by decide
  have hw1 : IntKind.i64.wrap ((n : Int) - 0) = (n : Int) := by rw [IntKind.wrap_i64]; omega
  have hw2 : IntKind.i64.wrap (n : Int) = (n : Int) := by rw [IntKind.wrap_i64]; omega
  have hneg : ¬ (n : Int) < 0 := by omega
  have d0 : decide ((n : Int) < 0) = false := decide_eq_false hneg
  rcases Nat.eq_zero_or_pos n with h0 | h0
  · subst h0
    clear hn hw0 hw1 hw2 hneg d0
    show Calls Tryz.prog 48 #[.slice none 0 0, .int .i64 0] W _
    go_enter Tryz.func48, Tryz.ntmps48
    go_wp2_with fail
    go_ret
    exact ⟨_, rfl, World.ownsRow_nil _ _ _ 1, Below.refl _ _⟩
  · obtain ⟨c, W', cur, hrun, hge, hle, hh, hsz, hb⟩ := run_append_make W 23 n h0 hn
    have HH := Lib.hid hh
    have HSZ := Lib.hid hsz
    have HLE := Lib.hid hle
    have HB := Lib.hid hb
    have hgt : (0 : Int) < (n : Int) := by omega
    have d1 : decide ((0 : Int) < (n : Int)) = true := decide_eq_true hgt
    clear hn hh hsz hle hb h0
    go_enter Tryz.func48, Tryz.ntmps48
    go_wp2_with (refine wpList_appM _ rfl _ _ rfl (.slice none 0 0) (.int .i64 (n : Int)) _ _ rfl rfl hrun ?_)
    go_ret
    exact ⟨_, rfl, ⟨rfl, Or.inr ⟨W.heap.size, c, cur, rfl, Nat.le_refl _, HH.out, Nat.zero_le _, HLE.out, by rw [HSZ.out, Nat.mul_one], rfl⟩⟩, HB.out⟩
theorem strs_one (l : List (List UInt8)) : ∀ u ∈ strs l, u.oneCell' = true := fun u hu => by
  unfold strs at hu
  obtain ⟨x, -, rfl⟩ := List.mem_map.1 hu
  rfl
set_option maxRecDepth 100000 in
set_option maxHeartbeats 4000000 in
theorem concat_any (g0 : Nat) (a1 a2 : Option Addr) (c1 c2 : Nat) (l1 l2 : List (List UInt8)) (W : World) (hx0 : W.cell? ⟨g0, 0, none⟩ = some (.slice a1 l1.length c1)) (hx1 : W.cell? ⟨g0, 1, none⟩ = some (.slice a2 l2.length c2)) (hg : g0 < W.heap.size) (h1 : Rd W a1 l1.length (strs l1)) (h2 : Rd W a2 l2.length (strs l2)) (hl1 : l1.length ≤ 400) (hl2 : l2.length ≤ 400) :
    Calls Tryz.prog 27 #[.slice (some ⟨g0, 0, none⟩) 2 2] W fun e W' => ∃ ra rc, e = .returned (.slice ra (l1.length + l2.length) rc) ∧ W'.ownsRow W.heap.size 9 1 (.slice ra (l1.length + l2.length) rc) (l1.length + l2.length) (strs (l1 ++ l2)) ∧ Below W.heap.size W W' := by
  have HX0 := Lib.hid (fun W1 (hb : Below W.heap.size W W1) => (hb.cell (p := ⟨g0, 0, none⟩) hg).trans hx0)
  have HX1 := Lib.hid (fun W1 (hb : Below W.heap.size W W1) => (hb.cell (p := ⟨g0, 1, none⟩) hg).trans hx1)
  have HR1 := Lib.hid h1
  have HR2 := Lib.hid h2
  obtain ⟨n1, hn1⟩ : ∃ n, l1.length = n := ⟨_, rfl⟩
  obtain ⟨n2, hn2⟩ : ∃ n, l2.length = n := ⟨_, rfl⟩
  rw [hn1] at HX0 HR1 hl1 ⊢
  rw [hn2] at HX1 HR2 hl2 ⊢
  have HGR := Lib.hid (fun W1 => grow_any (n1 + n2) W1 (by omega))
  have hw1 : IntKind.i64.wrap ((0 : Int) + (n1 : Int)) = (n1 : Int) := by rw [IntKind.wrap_i64]; omega
  have hw2 : IntKind.i64.wrap ((n1 : Int) + (n2 : Int)) = (n1 : Int) + (n2 : Int) := by rw [IntKind.wrap_i64]; omega
  have hw3 : IntKind.i64.wrap (n1 : Int) = (n1 : Int) := by rw [IntKind.wrap_i64]; omega
  have hneg1 : decide ((n1 : Int) < 0) = false := decide_eq_false (by omega)
  have hneg2 : decide ((n1 : Int) + (n2 : Int) < 0) = false := decide_eq_false (by omega)
  have hneg3 : ¬ (n1 : Int) < 0 := by omega
  have hneg4 : ¬ (n1 : Int) + (n2 : Int) < 0 := by omega
  have HL1 := Lib.hid hl1
  have HL2 := Lib.hid hl2
  clear hx0 hx1 h1 h2 hn1 hn2 hl1 hl2
  obtain ⟨W0, rfl⟩ : ∃ W0 : World, W0 = W := ⟨_, rfl⟩
  go_enter Tryz.func27, Tryz.ntmps27
  go_wp2_with fail
  go_loopw [3, 11] (fun z i wr => ∃ k s : Nat, ((k = 0 ∧ s = 0) ∨ (k = 1 ∧ s = n1) ∨ (k = 2 ∧ s = n1 + n2)) ∧ i = .int .i64 (k : Int) ∧ z = .int .i64 (s : Int) ∧ W0 = wr) (fun _ i _ => 2 - (intOf i).toNat)
  case atStart => exact ⟨0, 0, Or.inl ⟨rfl, rfl⟩, rfl, rfl, rfl⟩
  case round =>
    obtain ⟨k, s, hks, rfl, rfl, rfl⟩ := hrel
    rcases hks with ⟨rfl, rfl⟩ | ⟨rfl, rfl⟩ | ⟨rfl, rfl⟩
    · have q0 := HX0.out W0 (Below.refl _ _)
      go_wp2_with fail
      go_roundw
      case rel => exact ⟨1, n1, Or.inr (Or.inl ⟨rfl, rfl⟩), rfl, rfl, trivial⟩
      case measure => simp [intOf]
    · have q1 := HX1.out W0 (Below.refl _ _)
      go_wp2_with fail
      go_roundw
      case rel => exact ⟨2, s + n2, Or.inr (Or.inr ⟨rfl, rfl⟩), rfl, by first | rfl | simp, trivial⟩
      case measure => simp [intOf]
    · clear hneg2 hneg4
      go_wp2_with fail
      refine (HGR.out _).mono ?_; rintro e w1 ⟨v, rfl, hown, hb⟩
      obtain ⟨ra0, rc0, rfl, -⟩ := own_slice hown
      have HO0 := Lib.hid hown
      have HB0 := Lib.hid hb
      clear hown hb
      go_wp2_with fail
      go_loopw [6, 27] (fun v i wr => ∃ (k s : Nat) (ra : Option Addr) (rc : Nat) (l : List (List UInt8)), ((k = 0 ∧ s = 0 ∧ l = []) ∨ (k = 1 ∧ s = n1 ∧ l = l1) ∨ (k = 2 ∧ s = n1 + n2 ∧ l = l1 ++ l2)) ∧ i = .int .i64 (k : Int) ∧ v = .slice ra s rc ∧ Hid (wr.ownsRow W0.heap.size 9 1 (.slice ra s rc) s (strs l)) ∧ Hid (Below W0.heap.size W0 wr)) (fun _ i _ => 2 - (intOf i).toNat)
      case atStart => exact ⟨0, 0, ra0, rc0, [], Or.inl ⟨rfl, rfl, rfl⟩, rfl, rfl, HO0, HB0⟩
      case round =>
        obtain ⟨k, s, ra, rc, l, hks, rfl, rfl, HO, HB⟩ := hrel
        rcases hks with ⟨rfl, rfl, rfl⟩ | ⟨rfl, rfl, rfl⟩ | ⟨rfl, rfl, rfl⟩
        · have q0 := HX0.out wr HB.out
          go_wp2_with (refine wpList_appE 23 9 (.string ⟨#[]⟩) 1 16 Tryz.underlying23 infoStr rfl (by decide) (by decide) _ rfl _ _ rfl W0.heap.size (.slice ra 0 rc) 0 (strs []) rfl HO.out a1 n1 c1 (strs l1) rfl (by rw [Nat.mul_one]; exact HR1.out.below HB.out) (strs_one _) (by have := HL1.out; have := HL2.out; omega) HB.out.size ?_; intro a9 c9 W9 hown9 hg9 hob9; have HO9 := Lib.hid hown9; have HB9 := Lib.hid (HB.out.grown hg9 HB.out.size (fun r e => (HO.out.lt r e).1)); clear hown9 hg9 hob9)
          rw [Nat.zero_add, show strs [] ++ strs l1 = strs l1 from rfl] at HO9
          go_roundw
          case rel => exact ⟨1, n1, a9, c9, l1, Or.inr (Or.inl ⟨rfl, rfl, rfl⟩), rfl, by first | rfl | simp, HO9, HB9⟩
          case measure => simp [intOf]
        · have q1 := HX1.out wr HB.out
          go_wp2_with (refine wpList_appE 23 9 (.string ⟨#[]⟩) 1 16 Tryz.underlying23 infoStr rfl (by decide) (by decide) _ rfl _ _ rfl W0.heap.size (.slice ra s rc) s (strs l) rfl HO.out a2 n2 c2 (strs l2) rfl (by rw [Nat.mul_one]; exact HR2.out.below HB.out) (strs_one _) (by have := HL1.out; have := HL2.out; omega) HB.out.size ?_; intro a9 c9 W9 hown9 hg9 hob9; have HO9 := Lib.hid hown9; have HB9 := Lib.hid (HB.out.grown hg9 HB.out.size (fun r e => (HO.out.lt r e).1)); clear hown9 hg9 hob9)
          go_roundw
          case rel => exact ⟨2, s + n2, a9, c9, l ++ l2, Or.inr (Or.inr ⟨rfl, rfl, rfl⟩), rfl, rfl, Lib.hid (by rw [strs_app]; exact HO9.out), HB9⟩
          case measure => simp [intOf]
        · go_wp2_with fail
          go_ret
          exact ⟨ra, rc, rfl, HO.out, HB.out⟩
end Go.Proofs.YtjefkhieihigiaaGreat
