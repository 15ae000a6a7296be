/- IsaY -/
import Derived.Test.YtegoddghfjfibaaGreatDoorZ40
import Derived.Great.Walk
import Derived.Great.BuildSlice
namespace Go.Proofs.YtegoddghfjfibaaGreatDoor.Is
set_option linter.unusedVariables false
set_option maxRecDepth 100000
set_option linter.unusedSimpArgs false
open Go.Joins Go.ChangeShapes Go.WideShapes Go.ChangeAt Go.RowKit

theorem thM {W : World} {P N : Nat} (M : Nat) (h : Box32 W P N) : W.there P 0 (bitsL M).toArray.size := by
  rw [List.size_toArray, bitsL_len]; exact h.there
theorem szM (M : Nat) : (Tryz.prog.info? 121).map (·.size) = some (bitsL M).toArray.size := by
  rw [List.size_toArray]; exact wordSize M
theorem oneM (M : Nat) : (bitsL M).toArray.all (·.oneCell') = true := all_oneCell_toArray (bitsL_one M)
theorem Box32.ofStore {W : World} {P N : Nat} (h : Box32 W P N) (M : Nat) : Box32 (W.setCells P 0 (bitsL M)) P M := by
  refine ⟨fun j => by rw [World.frozen?_setCells]; exact h.1 j, fun j hj => ?_⟩
  have := World.rangeAt_setCells_same W P 0 (bitsL M) (by rw [bitsL_len]; exact h.there) j _ (bitsL_at M j hj)
  rwa [Nat.zero_add] at this
def Six (W : World) (P : Nat) (v0 v1 v2 v3 v4 v5 : Value) : Prop := W.cell? ⟨P, 0, none⟩ = some v0 ∧ W.cell? ⟨P, 1, none⟩ = some v1 ∧ W.cell? ⟨P, 2, none⟩ = some v2 ∧ W.cell? ⟨P, 3, none⟩ = some v3 ∧ W.cell? ⟨P, 4, none⟩ = some v4 ∧ W.cell? ⟨P, 5, none⟩ = some v5
def Five (W : World) (P : Nat) (v0 v1 v2 v3 v4 : Value) : Prop := W.cell? ⟨P, 0, none⟩ = some v0 ∧ W.cell? ⟨P, 1, none⟩ = some v1 ∧ W.cell? ⟨P, 2, none⟩ = some v2 ∧ W.cell? ⟨P, 3, none⟩ = some v3 ∧ W.cell? ⟨P, 4, none⟩ = some v4
/-- where a walk of Encode stands: the instruction, the operation, the word -/
def St (w W : World) (P Q : Nat) (op rd rs1 rs2 n : Int) (s : List UInt8) (k c f3 f7 sh : Int) (N : Nat) : Prop :=
  Five W w.heap.size (.int .i64 op) (.int .i64 rd) (.int .i64 rs1) (.int .i64 rs2) (.int .i64 n) ∧ Six W P (.string ⟨s.toArray⟩) (.int .i64 k) (.int .i64 c) (.int .i64 f3) (.int .i64 f7) (.int .i64 sh) ∧ Box32 W Q N ∧ Below w.heap.size w W ∧ w.heap.size < P ∧ P < Q
theorem cells_on {W W' : World} (hb : Below W.heap.size W W') {P j : Nat} {v : Value} (h : W.cell? ⟨P, j, none⟩ = some v) : W'.cell? ⟨P, j, none⟩ = some v :=
  (hb.cell (p := ⟨P, j, none⟩) (heap_lt_of_cell h)).trans h
theorem cells_put {W : World} {P j Q : Nat} {v : Value} (l : List Value) (hne : P ≠ Q) (h : W.cell? ⟨P, j, none⟩ = some v) : (W.setCells Q 0 l).cell? ⟨P, j, none⟩ = some v :=
  (World.cell?_setCells_out _ _ _ _ _ (fun hb _ => absurd hb hne)).trans h
theorem St.on {w W W' : World} {P Q : Nat} {op rd rs1 rs2 n : Int} {s : List UInt8} {k c f3 f7 sh : Int} {N : Nat} (h : St w W P Q op rd rs1 rs2 n s k c f3 f7 sh N) (hb : Below W.heap.size W W') : St w W' P Q op rd rs1 rs2 n s k c f3 f7 sh N := by
  obtain ⟨⟨a0, a1, a2, a3, a4⟩, ⟨b0, b1, b2, b3, b4, b5⟩, hB, hw, h1, h2⟩ := h
  exact ⟨⟨cells_on hb a0, cells_on hb a1, cells_on hb a2, cells_on hb a3, cells_on hb a4⟩, ⟨cells_on hb b0, cells_on hb b1, cells_on hb b2, cells_on hb b3, cells_on hb b4, cells_on hb b5⟩, hB.on hb, bTrans hw hb, h1, h2⟩
theorem St.put {w W : World} {P Q : Nat} {op rd rs1 rs2 n : Int} {s : List UInt8} {k c f3 f7 sh : Int} {N : Nat} (h : St w W P Q op rd rs1 rs2 n s k c f3 f7 sh N) (M : Nat) : St w (W.setCells Q 0 (bitsL M)) P Q op rd rs1 rs2 n s k c f3 f7 sh M := by
  obtain ⟨⟨a0, a1, a2, a3, a4⟩, ⟨b0, b1, b2, b3, b4, b5⟩, hB, hw, h1, h2⟩ := h
  have n1 : w.heap.size ≠ Q := by omega
  have n2 : P ≠ Q := by omega
  exact ⟨⟨cells_put _ n1 a0, cells_put _ n1 a1, cells_put _ n1 a2, cells_put _ n1 a3, cells_put _ n1 a4⟩, ⟨cells_put _ n2 b0, cells_put _ n2 b1, cells_put _ n2 b2, cells_put _ n2 b3, cells_put _ n2 b4, cells_put _ n2 b5⟩, hB.ofStore M, below_setCells _ (by omega) _ _ _ hw, h1, h2⟩
set_option maxHeartbeats 1000000 in
theorem renc1 (op rd rs1 rs2 n : Int) (s : List UInt8) (c f3 f7 sh : Int) (M1 M2 M3 M4 M5 M : Nat) (l0 : Lay 0 M1 0 7 0 c) (l1 : Lay M1 M2 0 3 12 f3) (l2 : Lay M2 M3 0 5 7 rd) (l3 : Lay M3 M4 0 5 15 rs1) (l4 : Lay M4 M5 0 5 20 rs2) (hrest : Rest M5 M s 1 c f3 f7 sh n) (hM : M < 4294967296)
    (hR : ∀ w, Calls Tryz.prog 72 #[instV op rd rs1 rs2 n] w fun e w' => e = .returned (.bool true) ∧ Below w.heap.size w w')
    (hO : ∀ w, Calls Tryz.prog 25 #[.int .i64 op] w fun e w' => e = .returned (operV s 1 c f3 f7 sh) ∧ Below w.heap.size w w') (w : World) :
    Calls Tryz.prog 33 #[instV op rd rs1 rs2 n] w fun e w' => e = .returned (.tuple #[.int .u32 (M : Int), .int .i64 0]) ∧ Below w.heap.size w w' := by
  have hnum := fun w => wnumber_any M w hM
  have hB0 := fun w => Box5.new w (.int .i64 op) (.int .i64 rd) (.int .i64 rs1) (.int .i64 rs2) (.int .i64 n) 61
  unfold Rest at hrest
  unfold Lay at l0 l1 l2 l3 l4
  have W0 := Lib.hid (fun (W : World) => Box32.new W 0 121)
  unfold instV operV wordV at *
  have L0 := Lib.hid l0
  have L1 := Lib.hid l1
  have L2 := Lib.hid l2
  have L3 := Lib.hid l3
  have L4 := Lib.hid l4
  have LR := Lib.hid hrest
  have LN := Lib.hid hnum
  have LO := Lib.hid hO
  have LQ := Lib.hid hR
  have LB := Lib.hid hB0
  clear hrest hnum hO hR hB0 hM l0 l1 l2 l3 l4
  go_enter Tryz.func33, Tryz.ntmps33
  go_wp2_with fail
  refine (LQ.out _).mono ?_; rintro e w1 ⟨rfl, q1⟩
  have B1 := Lib.hid ((LB.out w).on q1); have Q1 := Lib.hid (bTrans (bAlloc (Below.refl _ _) _) q1); have Z1 := Lib.hid (LB.out w).lt; clear q1
  obtain ⟨-, c0, c1, c2, c3, c4⟩ := B1.out
  go_wp2_with fail
  refine (LO.out _).mono ?_; rintro e w2 ⟨rfl, q2⟩
  have B2 := Lib.hid (B1.out.on q2); have Q2 := Lib.hid (bTrans Q1.out q2); clear q2 B1 Q1 c0 c1 c2 c3 c4 Z1
  go_upto_region 6 with (go_at_call 73; refine (registers_any _ _).mono ?_; rintro e w' ⟨rfl, rfl⟩)
  have K0 := Lib.hid (boxed (w := w2) (cs := #[.string ⟨s.toArray⟩, .int .i64 1, .int .i64 c, .int .i64 f3, .int .i64 f7, .int .i64 sh]) (t := 57) (Below.refl _ _))
  have B3 := Lib.hid (B2.out.on (bAlloc (Below.refl _ _) (Obj.cells #[.string ⟨s.toArray⟩, .int .i64 1, .int .i64 c, .int .i64 f3, .int .i64 f7, .int .i64 sh] 57)))
  have Q3 := Lib.hid (bAlloc Q2.out (Obj.cells #[.string ⟨s.toArray⟩, .int .i64 1, .int .i64 c, .int .i64 f3, .int .i64 f7, .int .i64 sh] 57))
  have Z2 := Lib.hid (B2.out.lt)
  have Z3 := Lib.hid (size_alloc w2 (Obj.cells #[.string ⟨s.toArray⟩, .int .i64 1, .int .i64 c, .int .i64 f3, .int .i64 f7, .int .i64 sh] 57))
  generalize w2.alloc (Obj.cells #[.string ⟨s.toArray⟩, .int .i64 1, .int .i64 c, .int .i64 f3, .int .i64 f7, .int .i64 sh] 57) = W3 at *
  apply wp_region_lit
  refine wpList_buildTo rfl 121 _ rfl (some 18) rfl (bitsL 0).toArray (by kernel_rfl) ?_
  refine Great.wpList_allocTo rfl (some 7) rfl (.pointer (some ⟨W3.heap.size, 0, none⟩)) (.cells (bitsL 0).toArray 121) (by kernel_rfl) ?_
  have S4 := Lib.hid (show St w (W3.alloc (.cells (bitsL 0).toArray 121)) w2.heap.size W3.heap.size op rd rs1 rs2 n s 1 c f3 f7 sh 0 from by
    obtain ⟨-, a0, a1, a2, a3, a4⟩ := B3.out
    have b0 := (K0.out 0).trans rfl; have b1 := (K0.out 1).trans rfl; have b2 := (K0.out 2).trans rfl; have b3 := (K0.out 3).trans rfl; have b4 := (K0.out 4).trans rfl; have b5 := (K0.out 5).trans rfl
    have hb := bAlloc (Below.refl W3.heap.size W3) (Obj.cells (bitsL 0).toArray 121)
    exact ⟨⟨cells_on hb a0, cells_on hb a1, cells_on hb a2, cells_on hb a3, cells_on hb a4⟩, ⟨cells_on hb b0, cells_on hb b1, cells_on hb b2, cells_on hb b3, cells_on hb b4, cells_on hb b5⟩, W0.out W3, bAlloc Q3.out _, Z2.out, by rw [Z3.out]; exact Nat.lt_succ_self _⟩)
  refine wpList_store_mid rfl _ _ _ rfl W3.heap.size 0 (bitsL 0).toArray rfl rfl (thM 0 S4.out.2.2.1) (szM 0) (oneM 0) ?_
  have S5 := Lib.hid (S4.out.put 0)
  generalize W3.heap.size = Q at *
  generalize w2.heap.size = P at *
  clear B2 B3 K0 Q2 Q3 Z2 Z3 S4
  have e0 : (bitsL 0).toArray.toList = bitsL 0 := rfl
  rw [e0]
  clear e0
  generalize World.setCells _ Q 0 (bitsL 0) = W5 at *
  obtain ⟨⟨c0, c1, c2, c3, c4⟩, ⟨d0, d1, d2, d3, d4, d5⟩, -, -, -, -⟩ := S5.out
  go_upto_region 7 with fail
  apply wp_region_lit
  refine wpList_load_mid rfl _ _ rfl Q 0 rfl (bitsL 0) (.array 32 3) S5.out.2.2.1.range Tryz.underlying121 rfl (wordSize 0) ?_
  go_wp2_with fail
  refine (L0.out _).mono ?_; rintro e w5 ⟨rfl, q5⟩
  have S5' := Lib.hid (S5.out.on q5); clear q5 c0 c1 c2 c3 c4 d0 d1 d2 d3 d4 d5 S5
  simp only []
  go_at_K
  rename_i hK
  refine hK _ _ ?_
  clear hK
  refine wpList_store_mid rfl _ _ _ rfl Q 0 (bitsL M1).toArray rfl rfl (thM M1 S5'.out.2.2.1) (szM M1) (oneM M1) ?_
  have S6 := Lib.hid (S5'.out.put M1)
  clear S5'
  have e0 : (bitsL M1).toArray.toList = bitsL M1 := rfl
  rw [e0]
  clear e0
  generalize World.setCells _ Q 0 (bitsL M1) = W6 at *
  obtain ⟨⟨c0, c1, c2, c3, c4⟩, ⟨d0, d1, d2, d3, d4, d5⟩, -, -, -, -⟩ := S6.out
  go_upto_region 9 with fail
  apply wp_region_lit
  refine wpList_load_mid rfl _ _ rfl Q 0 rfl (bitsL M1) (.array 32 3) S6.out.2.2.1.range Tryz.underlying121 rfl (wordSize M1) ?_
  go_wp2_with fail
  refine (L1.out _).mono ?_; rintro e w6 ⟨rfl, q6⟩
  have S6' := Lib.hid (S6.out.on q6); clear q6 c0 c1 c2 c3 c4 d0 d1 d2 d3 d4 d5 S6
  simp only []
  go_at_K
  rename_i hK
  refine hK _ _ ?_
  clear hK
  refine wpList_store_mid rfl _ _ _ rfl Q 0 (bitsL M2).toArray rfl rfl (thM M2 S6'.out.2.2.1) (szM M2) (oneM M2) ?_
  have S7 := Lib.hid (S6'.out.put M2)
  clear S6'
  have e0 : (bitsL M2).toArray.toList = bitsL M2 := rfl
  rw [e0]
  clear e0
  generalize World.setCells _ Q 0 (bitsL M2) = W7 at *
  obtain ⟨⟨c0, c1, c2, c3, c4⟩, ⟨d0, d1, d2, d3, d4, d5⟩, -, -, -, -⟩ := S7.out
  go_upto_region 11 with fail
  apply wp_region_lit
  refine wpList_load_mid rfl _ _ rfl Q 0 rfl (bitsL M2) (.array 32 3) S7.out.2.2.1.range Tryz.underlying121 rfl (wordSize M2) ?_
  go_wp2_with fail
  refine (L2.out _).mono ?_; rintro e w7 ⟨rfl, q7⟩
  have S7' := Lib.hid (S7.out.on q7); clear q7 c0 c1 c2 c3 c4 d0 d1 d2 d3 d4 d5 S7
  simp only []
  go_at_K
  rename_i hK
  refine hK _ _ ?_
  clear hK
  refine wpList_store_mid rfl _ _ _ rfl Q 0 (bitsL M3).toArray rfl rfl (thM M3 S7'.out.2.2.1) (szM M3) (oneM M3) ?_
  have S8 := Lib.hid (S7'.out.put M3)
  clear S7'
  have e0 : (bitsL M3).toArray.toList = bitsL M3 := rfl
  rw [e0]
  clear e0
  generalize World.setCells _ Q 0 (bitsL M3) = W8 at *
  obtain ⟨⟨c0, c1, c2, c3, c4⟩, ⟨d0, d1, d2, d3, d4, d5⟩, -, -, -, -⟩ := S8.out
  go_upto_region 13 with fail
  apply wp_region_lit
  refine wpList_load_mid rfl _ _ rfl Q 0 rfl (bitsL M3) (.array 32 3) S8.out.2.2.1.range Tryz.underlying121 rfl (wordSize M3) ?_
  go_wp2_with fail
  refine (L3.out _).mono ?_; rintro e w8 ⟨rfl, q8⟩
  have S8' := Lib.hid (S8.out.on q8); clear q8 c0 c1 c2 c3 c4 d0 d1 d2 d3 d4 d5 S8
  simp only []
  go_at_K
  rename_i hK
  refine hK _ _ ?_
  clear hK
  refine wpList_store_mid rfl _ _ _ rfl Q 0 (bitsL M4).toArray rfl rfl (thM M4 S8'.out.2.2.1) (szM M4) (oneM M4) ?_
  have S9 := Lib.hid (S8'.out.put M4)
  clear S8'
  have e0 : (bitsL M4).toArray.toList = bitsL M4 := rfl
  rw [e0]
  clear e0
  generalize World.setCells _ Q 0 (bitsL M4) = W9 at *
  obtain ⟨⟨c0, c1, c2, c3, c4⟩, ⟨d0, d1, d2, d3, d4, d5⟩, -, -, -, -⟩ := S9.out
  go_upto_region 15 with fail
  apply wp_region_lit
  refine wpList_load_mid rfl _ _ rfl Q 0 rfl (bitsL M4) (.array 32 3) S9.out.2.2.1.range Tryz.underlying121 rfl (wordSize M4) ?_
  go_wp2_with fail
  refine (L4.out _).mono ?_; rintro e w9 ⟨rfl, q9⟩
  have S9' := Lib.hid (S9.out.on q9); clear q9 c0 c1 c2 c3 c4 d0 d1 d2 d3 d4 d5 S9
  simp only []
  go_at_K
  rename_i hK
  refine hK _ _ ?_
  clear hK
  refine wpList_store_mid rfl _ _ _ rfl Q 0 (bitsL M5).toArray rfl rfl (thM M5 S9'.out.2.2.1) (szM M5) (oneM M5) ?_
  have S10 := Lib.hid (S9'.out.put M5)
  clear S9'
  have e0 : (bitsL M5).toArray.toList = bitsL M5 := rfl
  rw [e0]
  clear e0
  generalize World.setCells _ Q 0 (bitsL M5) = W10 at *
  obtain ⟨⟨c0, c1, c2, c3, c4⟩, ⟨d0, d1, d2, d3, d4, d5⟩, -, -, -, -⟩ := S10.out
  go_upto_region 16 with fail
  apply wp_region_lit
  refine wpList_load_mid rfl _ _ rfl Q 0 rfl (bitsL M5) (.array 32 3) S10.out.2.2.1.range Tryz.underlying121 rfl (wordSize M5) ?_
  go_wp2_with fail
  refine (LR.out _).mono ?_; rintro e w10 ⟨rfl, q10⟩
  have S10' := Lib.hid (S10.out.on q10); clear q10 c0 c1 c2 c3 c4 d0 d1 d2 d3 d4 d5 S10
  simp only []
  go_at_K
  rename_i hK
  refine hK _ _ ?_
  clear hK
  refine wpList_store_mid rfl _ _ _ rfl Q 0 (bitsL M).toArray rfl rfl (thM M S10'.out.2.2.1) (szM M) (oneM M) ?_
  have S11 := Lib.hid (S10'.out.put M)
  clear S10'
  have e0 : (bitsL M).toArray.toList = bitsL M := rfl
  rw [e0]
  clear e0
  generalize World.setCells _ Q 0 (bitsL M) = W11 at *
  go_upto_region 17 with fail
  apply wp_region_lit
  refine wpList_load_mid rfl _ _ rfl Q 0 rfl (bitsL M) (.array 32 3) S11.out.2.2.1.range Tryz.underlying121 rfl (wordSize M) ?_
  go_wp2_with fail
  refine (LN.out _).mono ?_; rintro e w11 ⟨rfl, q11⟩
  go_wp2_with fail
  exact bodyPost_ret (v := .tuple #[.int .u32 (M : Int), .int .i64 0]) (by simp [results, Tryz.results33, go_sem]) rfl ⟨rfl, bTrans S11.out.2.2.2.1 q11⟩
set_option maxHeartbeats 1000000 in
theorem renc2 (op rd rs1 rs2 n : Int) (s : List UInt8) (c f3 f7 sh : Int) (M1 M2 M3 M4 M : Nat) (l0 : Lay 0 M1 0 7 0 c) (l1 : Lay M1 M2 0 3 12 f3) (l2 : Lay M2 M3 0 5 7 rd) (l3 : Lay M3 M4 0 5 15 rs1) (hrest : Rest M4 M s 2 c f3 f7 sh n) (hM : M < 4294967296)
    (hR : ∀ w, Calls Tryz.prog 72 #[instV op rd rs1 rs2 n] w fun e w' => e = .returned (.bool true) ∧ Below w.heap.size w w')
    (hO : ∀ w, Calls Tryz.prog 25 #[.int .i64 op] w fun e w' => e = .returned (operV s 2 c f3 f7 sh) ∧ Below w.heap.size w w') (w : World) :
    Calls Tryz.prog 33 #[instV op rd rs1 rs2 n] w fun e w' => e = .returned (.tuple #[.int .u32 (M : Int), .int .i64 0]) ∧ Below w.heap.size w w' := by
  have hnum := fun w => wnumber_any M w hM
  have hB0 := fun w => Box5.new w (.int .i64 op) (.int .i64 rd) (.int .i64 rs1) (.int .i64 rs2) (.int .i64 n) 61
  unfold Rest at hrest
  unfold Lay at l0 l1 l2 l3
  have W0 := Lib.hid (fun (W : World) => Box32.new W 0 121)
  unfold instV operV wordV at *
  have L0 := Lib.hid l0
  have L1 := Lib.hid l1
  have L2 := Lib.hid l2
  have L3 := Lib.hid l3
  have LR := Lib.hid hrest
  have LN := Lib.hid hnum
  have LO := Lib.hid hO
  have LQ := Lib.hid hR
  have LB := Lib.hid hB0
  clear hrest hnum hO hR hB0 hM l0 l1 l2 l3
  go_enter Tryz.func33, Tryz.ntmps33
  go_wp2_with fail
  refine (LQ.out _).mono ?_; rintro e w1 ⟨rfl, q1⟩
  have B1 := Lib.hid ((LB.out w).on q1); have Q1 := Lib.hid (bTrans (bAlloc (Below.refl _ _) _) q1); have Z1 := Lib.hid (LB.out w).lt; clear q1
  obtain ⟨-, c0, c1, c2, c3, c4⟩ := B1.out
  go_wp2_with fail
  refine (LO.out _).mono ?_; rintro e w2 ⟨rfl, q2⟩
  have B2 := Lib.hid (B1.out.on q2); have Q2 := Lib.hid (bTrans Q1.out q2); clear q2 B1 Q1 c0 c1 c2 c3 c4 Z1
  go_upto_region 6 with (go_at_call 73; refine (registers_any _ _).mono ?_; rintro e w' ⟨rfl, rfl⟩)
  have K0 := Lib.hid (boxed (w := w2) (cs := #[.string ⟨s.toArray⟩, .int .i64 2, .int .i64 c, .int .i64 f3, .int .i64 f7, .int .i64 sh]) (t := 57) (Below.refl _ _))
  have B3 := Lib.hid (B2.out.on (bAlloc (Below.refl _ _) (Obj.cells #[.string ⟨s.toArray⟩, .int .i64 2, .int .i64 c, .int .i64 f3, .int .i64 f7, .int .i64 sh] 57)))
  have Q3 := Lib.hid (bAlloc Q2.out (Obj.cells #[.string ⟨s.toArray⟩, .int .i64 2, .int .i64 c, .int .i64 f3, .int .i64 f7, .int .i64 sh] 57))
  have Z2 := Lib.hid (B2.out.lt)
  have Z3 := Lib.hid (size_alloc w2 (Obj.cells #[.string ⟨s.toArray⟩, .int .i64 2, .int .i64 c, .int .i64 f3, .int .i64 f7, .int .i64 sh] 57))
  generalize w2.alloc (Obj.cells #[.string ⟨s.toArray⟩, .int .i64 2, .int .i64 c, .int .i64 f3, .int .i64 f7, .int .i64 sh] 57) = W3 at *
  apply wp_region_lit
  refine wpList_buildTo rfl 121 _ rfl (some 18) rfl (bitsL 0).toArray (by kernel_rfl) ?_
  refine Great.wpList_allocTo rfl (some 7) rfl (.pointer (some ⟨W3.heap.size, 0, none⟩)) (.cells (bitsL 0).toArray 121) (by kernel_rfl) ?_
  have S4 := Lib.hid (show St w (W3.alloc (.cells (bitsL 0).toArray 121)) w2.heap.size W3.heap.size op rd rs1 rs2 n s 2 c f3 f7 sh 0 from by
    obtain ⟨-, a0, a1, a2, a3, a4⟩ := B3.out
    have b0 := (K0.out 0).trans rfl; have b1 := (K0.out 1).trans rfl; have b2 := (K0.out 2).trans rfl; have b3 := (K0.out 3).trans rfl; have b4 := (K0.out 4).trans rfl; have b5 := (K0.out 5).trans rfl
    have hb := bAlloc (Below.refl W3.heap.size W3) (Obj.cells (bitsL 0).toArray 121)
    exact ⟨⟨cells_on hb a0, cells_on hb a1, cells_on hb a2, cells_on hb a3, cells_on hb a4⟩, ⟨cells_on hb b0, cells_on hb b1, cells_on hb b2, cells_on hb b3, cells_on hb b4, cells_on hb b5⟩, W0.out W3, bAlloc Q3.out _, Z2.out, by rw [Z3.out]; exact Nat.lt_succ_self _⟩)
  refine wpList_store_mid rfl _ _ _ rfl W3.heap.size 0 (bitsL 0).toArray rfl rfl (thM 0 S4.out.2.2.1) (szM 0) (oneM 0) ?_
  have S5 := Lib.hid (S4.out.put 0)
  generalize W3.heap.size = Q at *
  generalize w2.heap.size = P at *
  clear B2 B3 K0 Q2 Q3 Z2 Z3 S4
  have e0 : (bitsL 0).toArray.toList = bitsL 0 := rfl
  rw [e0]
  clear e0
  generalize World.setCells _ Q 0 (bitsL 0) = W5 at *
  obtain ⟨⟨c0, c1, c2, c3, c4⟩, ⟨d0, d1, d2, d3, d4, d5⟩, -, -, -, -⟩ := S5.out
  go_upto_region 7 with fail
  apply wp_region_lit
  refine wpList_load_mid rfl _ _ rfl Q 0 rfl (bitsL 0) (.array 32 3) S5.out.2.2.1.range Tryz.underlying121 rfl (wordSize 0) ?_
  go_wp2_with fail
  refine (L0.out _).mono ?_; rintro e w5 ⟨rfl, q5⟩
  have S5' := Lib.hid (S5.out.on q5); clear q5 c0 c1 c2 c3 c4 d0 d1 d2 d3 d4 d5 S5
  simp only []
  go_at_K
  rename_i hK
  refine hK _ _ ?_
  clear hK
  refine wpList_store_mid rfl _ _ _ rfl Q 0 (bitsL M1).toArray rfl rfl (thM M1 S5'.out.2.2.1) (szM M1) (oneM M1) ?_
  have S6 := Lib.hid (S5'.out.put M1)
  clear S5'
  have e0 : (bitsL M1).toArray.toList = bitsL M1 := rfl
  rw [e0]
  clear e0
  generalize World.setCells _ Q 0 (bitsL M1) = W6 at *
  obtain ⟨⟨c0, c1, c2, c3, c4⟩, ⟨d0, d1, d2, d3, d4, d5⟩, -, -, -, -⟩ := S6.out
  go_upto_region 9 with fail
  apply wp_region_lit
  refine wpList_load_mid rfl _ _ rfl Q 0 rfl (bitsL M1) (.array 32 3) S6.out.2.2.1.range Tryz.underlying121 rfl (wordSize M1) ?_
  go_wp2_with fail
  refine (L1.out _).mono ?_; rintro e w6 ⟨rfl, q6⟩
  have S6' := Lib.hid (S6.out.on q6); clear q6 c0 c1 c2 c3 c4 d0 d1 d2 d3 d4 d5 S6
  simp only []
  go_at_K
  rename_i hK
  refine hK _ _ ?_
  clear hK
  refine wpList_store_mid rfl _ _ _ rfl Q 0 (bitsL M2).toArray rfl rfl (thM M2 S6'.out.2.2.1) (szM M2) (oneM M2) ?_
  have S7 := Lib.hid (S6'.out.put M2)
  clear S6'
  have e0 : (bitsL M2).toArray.toList = bitsL M2 := rfl
  rw [e0]
  clear e0
  generalize World.setCells _ Q 0 (bitsL M2) = W7 at *
  obtain ⟨⟨c0, c1, c2, c3, c4⟩, ⟨d0, d1, d2, d3, d4, d5⟩, -, -, -, -⟩ := S7.out
  go_upto_region 11 with fail
  apply wp_region_lit
  refine wpList_load_mid rfl _ _ rfl Q 0 rfl (bitsL M2) (.array 32 3) S7.out.2.2.1.range Tryz.underlying121 rfl (wordSize M2) ?_
  go_wp2_with fail
  refine (L2.out _).mono ?_; rintro e w7 ⟨rfl, q7⟩
  have S7' := Lib.hid (S7.out.on q7); clear q7 c0 c1 c2 c3 c4 d0 d1 d2 d3 d4 d5 S7
  simp only []
  go_at_K
  rename_i hK
  refine hK _ _ ?_
  clear hK
  refine wpList_store_mid rfl _ _ _ rfl Q 0 (bitsL M3).toArray rfl rfl (thM M3 S7'.out.2.2.1) (szM M3) (oneM M3) ?_
  have S8 := Lib.hid (S7'.out.put M3)
  clear S7'
  have e0 : (bitsL M3).toArray.toList = bitsL M3 := rfl
  rw [e0]
  clear e0
  generalize World.setCells _ Q 0 (bitsL M3) = W8 at *
  obtain ⟨⟨c0, c1, c2, c3, c4⟩, ⟨d0, d1, d2, d3, d4, d5⟩, -, -, -, -⟩ := S8.out
  go_upto_region 13 with fail
  apply wp_region_lit
  refine wpList_load_mid rfl _ _ rfl Q 0 rfl (bitsL M3) (.array 32 3) S8.out.2.2.1.range Tryz.underlying121 rfl (wordSize M3) ?_
  go_wp2_with fail
  refine (L3.out _).mono ?_; rintro e w8 ⟨rfl, q8⟩
  have S8' := Lib.hid (S8.out.on q8); clear q8 c0 c1 c2 c3 c4 d0 d1 d2 d3 d4 d5 S8
  simp only []
  go_at_K
  rename_i hK
  refine hK _ _ ?_
  clear hK
  refine wpList_store_mid rfl _ _ _ rfl Q 0 (bitsL M4).toArray rfl rfl (thM M4 S8'.out.2.2.1) (szM M4) (oneM M4) ?_
  have S9 := Lib.hid (S8'.out.put M4)
  clear S8'
  have e0 : (bitsL M4).toArray.toList = bitsL M4 := rfl
  rw [e0]
  clear e0
  generalize World.setCells _ Q 0 (bitsL M4) = W9 at *
  obtain ⟨⟨c0, c1, c2, c3, c4⟩, ⟨d0, d1, d2, d3, d4, d5⟩, -, -, -, -⟩ := S9.out
  go_upto_region 16 with fail
  apply wp_region_lit
  refine wpList_load_mid rfl _ _ rfl Q 0 rfl (bitsL M4) (.array 32 3) S9.out.2.2.1.range Tryz.underlying121 rfl (wordSize M4) ?_
  go_wp2_with fail
  refine (LR.out _).mono ?_; rintro e w9 ⟨rfl, q9⟩
  have S9' := Lib.hid (S9.out.on q9); clear q9 c0 c1 c2 c3 c4 d0 d1 d2 d3 d4 d5 S9
  simp only []
  go_at_K
  rename_i hK
  refine hK _ _ ?_
  clear hK
  refine wpList_store_mid rfl _ _ _ rfl Q 0 (bitsL M).toArray rfl rfl (thM M S9'.out.2.2.1) (szM M) (oneM M) ?_
  have S10 := Lib.hid (S9'.out.put M)
  clear S9'
  have e0 : (bitsL M).toArray.toList = bitsL M := rfl
  rw [e0]
  clear e0
  generalize World.setCells _ Q 0 (bitsL M) = W10 at *
  go_upto_region 17 with fail
  apply wp_region_lit
  refine wpList_load_mid rfl _ _ rfl Q 0 rfl (bitsL M) (.array 32 3) S10.out.2.2.1.range Tryz.underlying121 rfl (wordSize M) ?_
  go_wp2_with fail
  refine (LN.out _).mono ?_; rintro e w10 ⟨rfl, q10⟩
  go_wp2_with fail
  exact bodyPost_ret (v := .tuple #[.int .u32 (M : Int), .int .i64 0]) (by simp [results, Tryz.results33, go_sem]) rfl ⟨rfl, bTrans S10.out.2.2.2.1 q10⟩
set_option maxHeartbeats 1000000 in
theorem renc3 (op rd rs1 rs2 n : Int) (s : List UInt8) (c f3 f7 sh : Int) (M1 M2 M3 M4 M : Nat) (l0 : Lay 0 M1 0 7 0 c) (l1 : Lay M1 M2 0 3 12 f3) (l2 : Lay M2 M3 0 5 7 rd) (l3 : Lay M3 M4 0 5 15 rs1) (hrest : Rest M4 M s 3 c f3 f7 sh n) (hM : M < 4294967296)
    (hR : ∀ w, Calls Tryz.prog 72 #[instV op rd rs1 rs2 n] w fun e w' => e = .returned (.bool true) ∧ Below w.heap.size w w')
    (hO : ∀ w, Calls Tryz.prog 25 #[.int .i64 op] w fun e w' => e = .returned (operV s 3 c f3 f7 sh) ∧ Below w.heap.size w w') (w : World) :
    Calls Tryz.prog 33 #[instV op rd rs1 rs2 n] w fun e w' => e = .returned (.tuple #[.int .u32 (M : Int), .int .i64 0]) ∧ Below w.heap.size w w' := by
  have hnum := fun w => wnumber_any M w hM
  have hB0 := fun w => Box5.new w (.int .i64 op) (.int .i64 rd) (.int .i64 rs1) (.int .i64 rs2) (.int .i64 n) 61
  unfold Rest at hrest
  unfold Lay at l0 l1 l2 l3
  have W0 := Lib.hid (fun (W : World) => Box32.new W 0 121)
  unfold instV operV wordV at *
  have L0 := Lib.hid l0
  have L1 := Lib.hid l1
  have L2 := Lib.hid l2
  have L3 := Lib.hid l3
  have LR := Lib.hid hrest
  have LN := Lib.hid hnum
  have LO := Lib.hid hO
  have LQ := Lib.hid hR
  have LB := Lib.hid hB0
  clear hrest hnum hO hR hB0 hM l0 l1 l2 l3
  go_enter Tryz.func33, Tryz.ntmps33
  go_wp2_with fail
  refine (LQ.out _).mono ?_; rintro e w1 ⟨rfl, q1⟩
  have B1 := Lib.hid ((LB.out w).on q1); have Q1 := Lib.hid (bTrans (bAlloc (Below.refl _ _) _) q1); have Z1 := Lib.hid (LB.out w).lt; clear q1
  obtain ⟨-, c0, c1, c2, c3, c4⟩ := B1.out
  go_wp2_with fail
  refine (LO.out _).mono ?_; rintro e w2 ⟨rfl, q2⟩
  have B2 := Lib.hid (B1.out.on q2); have Q2 := Lib.hid (bTrans Q1.out q2); clear q2 B1 Q1 c0 c1 c2 c3 c4 Z1
  go_upto_region 6 with (go_at_call 73; refine (registers_any _ _).mono ?_; rintro e w' ⟨rfl, rfl⟩)
  have K0 := Lib.hid (boxed (w := w2) (cs := #[.string ⟨s.toArray⟩, .int .i64 3, .int .i64 c, .int .i64 f3, .int .i64 f7, .int .i64 sh]) (t := 57) (Below.refl _ _))
  have B3 := Lib.hid (B2.out.on (bAlloc (Below.refl _ _) (Obj.cells #[.string ⟨s.toArray⟩, .int .i64 3, .int .i64 c, .int .i64 f3, .int .i64 f7, .int .i64 sh] 57)))
  have Q3 := Lib.hid (bAlloc Q2.out (Obj.cells #[.string ⟨s.toArray⟩, .int .i64 3, .int .i64 c, .int .i64 f3, .int .i64 f7, .int .i64 sh] 57))
  have Z2 := Lib.hid (B2.out.lt)
  have Z3 := Lib.hid (size_alloc w2 (Obj.cells #[.string ⟨s.toArray⟩, .int .i64 3, .int .i64 c, .int .i64 f3, .int .i64 f7, .int .i64 sh] 57))
  generalize w2.alloc (Obj.cells #[.string ⟨s.toArray⟩, .int .i64 3, .int .i64 c, .int .i64 f3, .int .i64 f7, .int .i64 sh] 57) = W3 at *
  apply wp_region_lit
  refine wpList_buildTo rfl 121 _ rfl (some 18) rfl (bitsL 0).toArray (by kernel_rfl) ?_
  refine Great.wpList_allocTo rfl (some 7) rfl (.pointer (some ⟨W3.heap.size, 0, none⟩)) (.cells (bitsL 0).toArray 121) (by kernel_rfl) ?_
  have S4 := Lib.hid (show St w (W3.alloc (.cells (bitsL 0).toArray 121)) w2.heap.size W3.heap.size op rd rs1 rs2 n s 3 c f3 f7 sh 0 from by
    obtain ⟨-, a0, a1, a2, a3, a4⟩ := B3.out
    have b0 := (K0.out 0).trans rfl; have b1 := (K0.out 1).trans rfl; have b2 := (K0.out 2).trans rfl; have b3 := (K0.out 3).trans rfl; have b4 := (K0.out 4).trans rfl; have b5 := (K0.out 5).trans rfl
    have hb := bAlloc (Below.refl W3.heap.size W3) (Obj.cells (bitsL 0).toArray 121)
    exact ⟨⟨cells_on hb a0, cells_on hb a1, cells_on hb a2, cells_on hb a3, cells_on hb a4⟩, ⟨cells_on hb b0, cells_on hb b1, cells_on hb b2, cells_on hb b3, cells_on hb b4, cells_on hb b5⟩, W0.out W3, bAlloc Q3.out _, Z2.out, by rw [Z3.out]; exact Nat.lt_succ_self _⟩)
  refine wpList_store_mid rfl _ _ _ rfl W3.heap.size 0 (bitsL 0).toArray rfl rfl (thM 0 S4.out.2.2.1) (szM 0) (oneM 0) ?_
  have S5 := Lib.hid (S4.out.put 0)
  generalize W3.heap.size = Q at *
  generalize w2.heap.size = P at *
  clear B2 B3 K0 Q2 Q3 Z2 Z3 S4
  have e0 : (bitsL 0).toArray.toList = bitsL 0 := rfl
  rw [e0]
  clear e0
  generalize World.setCells _ Q 0 (bitsL 0) = W5 at *
  obtain ⟨⟨c0, c1, c2, c3, c4⟩, ⟨d0, d1, d2, d3, d4, d5⟩, -, -, -, -⟩ := S5.out
  go_upto_region 7 with fail
  apply wp_region_lit
  refine wpList_load_mid rfl _ _ rfl Q 0 rfl (bitsL 0) (.array 32 3) S5.out.2.2.1.range Tryz.underlying121 rfl (wordSize 0) ?_
  go_wp2_with fail
  refine (L0.out _).mono ?_; rintro e w5 ⟨rfl, q5⟩
  have S5' := Lib.hid (S5.out.on q5); clear q5 c0 c1 c2 c3 c4 d0 d1 d2 d3 d4 d5 S5
  simp only []
  go_at_K
  rename_i hK
  refine hK _ _ ?_
  clear hK
  refine wpList_store_mid rfl _ _ _ rfl Q 0 (bitsL M1).toArray rfl rfl (thM M1 S5'.out.2.2.1) (szM M1) (oneM M1) ?_
  have S6 := Lib.hid (S5'.out.put M1)
  clear S5'
  have e0 : (bitsL M1).toArray.toList = bitsL M1 := rfl
  rw [e0]
  clear e0
  generalize World.setCells _ Q 0 (bitsL M1) = W6 at *
  obtain ⟨⟨c0, c1, c2, c3, c4⟩, ⟨d0, d1, d2, d3, d4, d5⟩, -, -, -, -⟩ := S6.out
  go_upto_region 9 with fail
  apply wp_region_lit
  refine wpList_load_mid rfl _ _ rfl Q 0 rfl (bitsL M1) (.array 32 3) S6.out.2.2.1.range Tryz.underlying121 rfl (wordSize M1) ?_
  go_wp2_with fail
  refine (L1.out _).mono ?_; rintro e w6 ⟨rfl, q6⟩
  have S6' := Lib.hid (S6.out.on q6); clear q6 c0 c1 c2 c3 c4 d0 d1 d2 d3 d4 d5 S6
  simp only []
  go_at_K
  rename_i hK
  refine hK _ _ ?_
  clear hK
  refine wpList_store_mid rfl _ _ _ rfl Q 0 (bitsL M2).toArray rfl rfl (thM M2 S6'.out.2.2.1) (szM M2) (oneM M2) ?_
  have S7 := Lib.hid (S6'.out.put M2)
  clear S6'
  have e0 : (bitsL M2).toArray.toList = bitsL M2 := rfl
  rw [e0]
  clear e0
  generalize World.setCells _ Q 0 (bitsL M2) = W7 at *
  obtain ⟨⟨c0, c1, c2, c3, c4⟩, ⟨d0, d1, d2, d3, d4, d5⟩, -, -, -, -⟩ := S7.out
  go_upto_region 11 with fail
  apply wp_region_lit
  refine wpList_load_mid rfl _ _ rfl Q 0 rfl (bitsL M2) (.array 32 3) S7.out.2.2.1.range Tryz.underlying121 rfl (wordSize M2) ?_
  go_wp2_with fail
  refine (L2.out _).mono ?_; rintro e w7 ⟨rfl, q7⟩
  have S7' := Lib.hid (S7.out.on q7); clear q7 c0 c1 c2 c3 c4 d0 d1 d2 d3 d4 d5 S7
  simp only []
  go_at_K
  rename_i hK
  refine hK _ _ ?_
  clear hK
  refine wpList_store_mid rfl _ _ _ rfl Q 0 (bitsL M3).toArray rfl rfl (thM M3 S7'.out.2.2.1) (szM M3) (oneM M3) ?_
  have S8 := Lib.hid (S7'.out.put M3)
  clear S7'
  have e0 : (bitsL M3).toArray.toList = bitsL M3 := rfl
  rw [e0]
  clear e0
  generalize World.setCells _ Q 0 (bitsL M3) = W8 at *
  obtain ⟨⟨c0, c1, c2, c3, c4⟩, ⟨d0, d1, d2, d3, d4, d5⟩, -, -, -, -⟩ := S8.out
  go_upto_region 13 with fail
  apply wp_region_lit
  refine wpList_load_mid rfl _ _ rfl Q 0 rfl (bitsL M3) (.array 32 3) S8.out.2.2.1.range Tryz.underlying121 rfl (wordSize M3) ?_
  go_wp2_with fail
  refine (L3.out _).mono ?_; rintro e w8 ⟨rfl, q8⟩
  have S8' := Lib.hid (S8.out.on q8); clear q8 c0 c1 c2 c3 c4 d0 d1 d2 d3 d4 d5 S8
  simp only []
  go_at_K
  rename_i hK
  refine hK _ _ ?_
  clear hK
  refine wpList_store_mid rfl _ _ _ rfl Q 0 (bitsL M4).toArray rfl rfl (thM M4 S8'.out.2.2.1) (szM M4) (oneM M4) ?_
  have S9 := Lib.hid (S8'.out.put M4)
  clear S8'
  have e0 : (bitsL M4).toArray.toList = bitsL M4 := rfl
  rw [e0]
  clear e0
  generalize World.setCells _ Q 0 (bitsL M4) = W9 at *
  obtain ⟨⟨c0, c1, c2, c3, c4⟩, ⟨d0, d1, d2, d3, d4, d5⟩, -, -, -, -⟩ := S9.out
  go_upto_region 16 with fail
  apply wp_region_lit
  refine wpList_load_mid rfl _ _ rfl Q 0 rfl (bitsL M4) (.array 32 3) S9.out.2.2.1.range Tryz.underlying121 rfl (wordSize M4) ?_
  go_wp2_with fail
  refine (LR.out _).mono ?_; rintro e w9 ⟨rfl, q9⟩
  have S9' := Lib.hid (S9.out.on q9); clear q9 c0 c1 c2 c3 c4 d0 d1 d2 d3 d4 d5 S9
  simp only []
  go_at_K
  rename_i hK
  refine hK _ _ ?_
  clear hK
  refine wpList_store_mid rfl _ _ _ rfl Q 0 (bitsL M).toArray rfl rfl (thM M S9'.out.2.2.1) (szM M) (oneM M) ?_
  have S10 := Lib.hid (S9'.out.put M)
  clear S9'
  have e0 : (bitsL M).toArray.toList = bitsL M := rfl
  rw [e0]
  clear e0
  generalize World.setCells _ Q 0 (bitsL M) = W10 at *
  go_upto_region 17 with fail
  apply wp_region_lit
  refine wpList_load_mid rfl _ _ rfl Q 0 rfl (bitsL M) (.array 32 3) S10.out.2.2.1.range Tryz.underlying121 rfl (wordSize M) ?_
  go_wp2_with fail
  refine (LN.out _).mono ?_; rintro e w10 ⟨rfl, q10⟩
  go_wp2_with fail
  exact bodyPost_ret (v := .tuple #[.int .u32 (M : Int), .int .i64 0]) (by simp [results, Tryz.results33, go_sem]) rfl ⟨rfl, bTrans S10.out.2.2.2.1 q10⟩
set_option maxHeartbeats 1000000 in
theorem renc8 (op rd rs1 rs2 n : Int) (s : List UInt8) (c f3 f7 sh : Int) (M1 M2 M3 M4 M : Nat) (l0 : Lay 0 M1 0 7 0 c) (l1 : Lay M1 M2 0 3 12 f3) (l2 : Lay M2 M3 0 5 7 rd) (l3 : Lay M3 M4 0 5 15 rs1) (hrest : Rest M4 M s 8 c f3 f7 sh n) (hM : M < 4294967296)
    (hR : ∀ w, Calls Tryz.prog 72 #[instV op rd rs1 rs2 n] w fun e w' => e = .returned (.bool true) ∧ Below w.heap.size w w')
    (hO : ∀ w, Calls Tryz.prog 25 #[.int .i64 op] w fun e w' => e = .returned (operV s 8 c f3 f7 sh) ∧ Below w.heap.size w w') (w : World) :
    Calls Tryz.prog 33 #[instV op rd rs1 rs2 n] w fun e w' => e = .returned (.tuple #[.int .u32 (M : Int), .int .i64 0]) ∧ Below w.heap.size w w' := by
  have hnum := fun w => wnumber_any M w hM
  have hB0 := fun w => Box5.new w (.int .i64 op) (.int .i64 rd) (.int .i64 rs1) (.int .i64 rs2) (.int .i64 n) 61
  unfold Rest at hrest
  unfold Lay at l0 l1 l2 l3
  have W0 := Lib.hid (fun (W : World) => Box32.new W 0 121)
  unfold instV operV wordV at *
  have L0 := Lib.hid l0
  have L1 := Lib.hid l1
  have L2 := Lib.hid l2
  have L3 := Lib.hid l3
  have LR := Lib.hid hrest
  have LN := Lib.hid hnum
  have LO := Lib.hid hO
  have LQ := Lib.hid hR
  have LB := Lib.hid hB0
  clear hrest hnum hO hR hB0 hM l0 l1 l2 l3
  go_enter Tryz.func33, Tryz.ntmps33
  go_wp2_with fail
  refine (LQ.out _).mono ?_; rintro e w1 ⟨rfl, q1⟩
  have B1 := Lib.hid ((LB.out w).on q1); have Q1 := Lib.hid (bTrans (bAlloc (Below.refl _ _) _) q1); have Z1 := Lib.hid (LB.out w).lt; clear q1
  obtain ⟨-, c0, c1, c2, c3, c4⟩ := B1.out
  go_wp2_with fail
  refine (LO.out _).mono ?_; rintro e w2 ⟨rfl, q2⟩
  have B2 := Lib.hid (B1.out.on q2); have Q2 := Lib.hid (bTrans Q1.out q2); clear q2 B1 Q1 c0 c1 c2 c3 c4 Z1
  go_upto_region 6 with (go_at_call 73; refine (registers_any _ _).mono ?_; rintro e w' ⟨rfl, rfl⟩)
  have K0 := Lib.hid (boxed (w := w2) (cs := #[.string ⟨s.toArray⟩, .int .i64 8, .int .i64 c, .int .i64 f3, .int .i64 f7, .int .i64 sh]) (t := 57) (Below.refl _ _))
  have B3 := Lib.hid (B2.out.on (bAlloc (Below.refl _ _) (Obj.cells #[.string ⟨s.toArray⟩, .int .i64 8, .int .i64 c, .int .i64 f3, .int .i64 f7, .int .i64 sh] 57)))
  have Q3 := Lib.hid (bAlloc Q2.out (Obj.cells #[.string ⟨s.toArray⟩, .int .i64 8, .int .i64 c, .int .i64 f3, .int .i64 f7, .int .i64 sh] 57))
  have Z2 := Lib.hid (B2.out.lt)
  have Z3 := Lib.hid (size_alloc w2 (Obj.cells #[.string ⟨s.toArray⟩, .int .i64 8, .int .i64 c, .int .i64 f3, .int .i64 f7, .int .i64 sh] 57))
  generalize w2.alloc (Obj.cells #[.string ⟨s.toArray⟩, .int .i64 8, .int .i64 c, .int .i64 f3, .int .i64 f7, .int .i64 sh] 57) = W3 at *
  apply wp_region_lit
  refine wpList_buildTo rfl 121 _ rfl (some 18) rfl (bitsL 0).toArray (by kernel_rfl) ?_
  refine Great.wpList_allocTo rfl (some 7) rfl (.pointer (some ⟨W3.heap.size, 0, none⟩)) (.cells (bitsL 0).toArray 121) (by kernel_rfl) ?_
  have S4 := Lib.hid (show St w (W3.alloc (.cells (bitsL 0).toArray 121)) w2.heap.size W3.heap.size op rd rs1 rs2 n s 8 c f3 f7 sh 0 from by
    obtain ⟨-, a0, a1, a2, a3, a4⟩ := B3.out
    have b0 := (K0.out 0).trans rfl; have b1 := (K0.out 1).trans rfl; have b2 := (K0.out 2).trans rfl; have b3 := (K0.out 3).trans rfl; have b4 := (K0.out 4).trans rfl; have b5 := (K0.out 5).trans rfl
    have hb := bAlloc (Below.refl W3.heap.size W3) (Obj.cells (bitsL 0).toArray 121)
    exact ⟨⟨cells_on hb a0, cells_on hb a1, cells_on hb a2, cells_on hb a3, cells_on hb a4⟩, ⟨cells_on hb b0, cells_on hb b1, cells_on hb b2, cells_on hb b3, cells_on hb b4, cells_on hb b5⟩, W0.out W3, bAlloc Q3.out _, Z2.out, by rw [Z3.out]; exact Nat.lt_succ_self _⟩)
  refine wpList_store_mid rfl _ _ _ rfl W3.heap.size 0 (bitsL 0).toArray rfl rfl (thM 0 S4.out.2.2.1) (szM 0) (oneM 0) ?_
  have S5 := Lib.hid (S4.out.put 0)
  generalize W3.heap.size = Q at *
  generalize w2.heap.size = P at *
  clear B2 B3 K0 Q2 Q3 Z2 Z3 S4
  have e0 : (bitsL 0).toArray.toList = bitsL 0 := rfl
  rw [e0]
  clear e0
  generalize World.setCells _ Q 0 (bitsL 0) = W5 at *
  obtain ⟨⟨c0, c1, c2, c3, c4⟩, ⟨d0, d1, d2, d3, d4, d5⟩, -, -, -, -⟩ := S5.out
  go_upto_region 7 with fail
  apply wp_region_lit
  refine wpList_load_mid rfl _ _ rfl Q 0 rfl (bitsL 0) (.array 32 3) S5.out.2.2.1.range Tryz.underlying121 rfl (wordSize 0) ?_
  go_wp2_with fail
  refine (L0.out _).mono ?_; rintro e w5 ⟨rfl, q5⟩
  have S5' := Lib.hid (S5.out.on q5); clear q5 c0 c1 c2 c3 c4 d0 d1 d2 d3 d4 d5 S5
  simp only []
  go_at_K
  rename_i hK
  refine hK _ _ ?_
  clear hK
  refine wpList_store_mid rfl _ _ _ rfl Q 0 (bitsL M1).toArray rfl rfl (thM M1 S5'.out.2.2.1) (szM M1) (oneM M1) ?_
  have S6 := Lib.hid (S5'.out.put M1)
  clear S5'
  have e0 : (bitsL M1).toArray.toList = bitsL M1 := rfl
  rw [e0]
  clear e0
  generalize World.setCells _ Q 0 (bitsL M1) = W6 at *
  obtain ⟨⟨c0, c1, c2, c3, c4⟩, ⟨d0, d1, d2, d3, d4, d5⟩, -, -, -, -⟩ := S6.out
  go_upto_region 9 with fail
  apply wp_region_lit
  refine wpList_load_mid rfl _ _ rfl Q 0 rfl (bitsL M1) (.array 32 3) S6.out.2.2.1.range Tryz.underlying121 rfl (wordSize M1) ?_
  go_wp2_with fail
  refine (L1.out _).mono ?_; rintro e w6 ⟨rfl, q6⟩
  have S6' := Lib.hid (S6.out.on q6); clear q6 c0 c1 c2 c3 c4 d0 d1 d2 d3 d4 d5 S6
  simp only []
  go_at_K
  rename_i hK
  refine hK _ _ ?_
  clear hK
  refine wpList_store_mid rfl _ _ _ rfl Q 0 (bitsL M2).toArray rfl rfl (thM M2 S6'.out.2.2.1) (szM M2) (oneM M2) ?_
  have S7 := Lib.hid (S6'.out.put M2)
  clear S6'
  have e0 : (bitsL M2).toArray.toList = bitsL M2 := rfl
  rw [e0]
  clear e0
  generalize World.setCells _ Q 0 (bitsL M2) = W7 at *
  obtain ⟨⟨c0, c1, c2, c3, c4⟩, ⟨d0, d1, d2, d3, d4, d5⟩, -, -, -, -⟩ := S7.out
  go_upto_region 11 with fail
  apply wp_region_lit
  refine wpList_load_mid rfl _ _ rfl Q 0 rfl (bitsL M2) (.array 32 3) S7.out.2.2.1.range Tryz.underlying121 rfl (wordSize M2) ?_
  go_wp2_with fail
  refine (L2.out _).mono ?_; rintro e w7 ⟨rfl, q7⟩
  have S7' := Lib.hid (S7.out.on q7); clear q7 c0 c1 c2 c3 c4 d0 d1 d2 d3 d4 d5 S7
  simp only []
  go_at_K
  rename_i hK
  refine hK _ _ ?_
  clear hK
  refine wpList_store_mid rfl _ _ _ rfl Q 0 (bitsL M3).toArray rfl rfl (thM M3 S7'.out.2.2.1) (szM M3) (oneM M3) ?_
  have S8 := Lib.hid (S7'.out.put M3)
  clear S7'
  have e0 : (bitsL M3).toArray.toList = bitsL M3 := rfl
  rw [e0]
  clear e0
  generalize World.setCells _ Q 0 (bitsL M3) = W8 at *
  obtain ⟨⟨c0, c1, c2, c3, c4⟩, ⟨d0, d1, d2, d3, d4, d5⟩, -, -, -, -⟩ := S8.out
  go_upto_region 13 with fail
  apply wp_region_lit
  refine wpList_load_mid rfl _ _ rfl Q 0 rfl (bitsL M3) (.array 32 3) S8.out.2.2.1.range Tryz.underlying121 rfl (wordSize M3) ?_
  go_wp2_with fail
  refine (L3.out _).mono ?_; rintro e w8 ⟨rfl, q8⟩
  have S8' := Lib.hid (S8.out.on q8); clear q8 c0 c1 c2 c3 c4 d0 d1 d2 d3 d4 d5 S8
  simp only []
  go_at_K
  rename_i hK
  refine hK _ _ ?_
  clear hK
  refine wpList_store_mid rfl _ _ _ rfl Q 0 (bitsL M4).toArray rfl rfl (thM M4 S8'.out.2.2.1) (szM M4) (oneM M4) ?_
  have S9 := Lib.hid (S8'.out.put M4)
  clear S8'
  have e0 : (bitsL M4).toArray.toList = bitsL M4 := rfl
  rw [e0]
  clear e0
  generalize World.setCells _ Q 0 (bitsL M4) = W9 at *
  obtain ⟨⟨c0, c1, c2, c3, c4⟩, ⟨d0, d1, d2, d3, d4, d5⟩, -, -, -, -⟩ := S9.out
  go_upto_region 16 with fail
  apply wp_region_lit
  refine wpList_load_mid rfl _ _ rfl Q 0 rfl (bitsL M4) (.array 32 3) S9.out.2.2.1.range Tryz.underlying121 rfl (wordSize M4) ?_
  go_wp2_with fail
  refine (LR.out _).mono ?_; rintro e w9 ⟨rfl, q9⟩
  have S9' := Lib.hid (S9.out.on q9); clear q9 c0 c1 c2 c3 c4 d0 d1 d2 d3 d4 d5 S9
  simp only []
  go_at_K
  rename_i hK
  refine hK _ _ ?_
  clear hK
  refine wpList_store_mid rfl _ _ _ rfl Q 0 (bitsL M).toArray rfl rfl (thM M S9'.out.2.2.1) (szM M) (oneM M) ?_
  have S10 := Lib.hid (S9'.out.put M)
  clear S9'
  have e0 : (bitsL M).toArray.toList = bitsL M := rfl
  rw [e0]
  clear e0
  generalize World.setCells _ Q 0 (bitsL M) = W10 at *
  go_upto_region 17 with fail
  apply wp_region_lit
  refine wpList_load_mid rfl _ _ rfl Q 0 rfl (bitsL M) (.array 32 3) S10.out.2.2.1.range Tryz.underlying121 rfl (wordSize M) ?_
  go_wp2_with fail
  refine (LN.out _).mono ?_; rintro e w10 ⟨rfl, q10⟩
  go_wp2_with fail
  exact bodyPost_ret (v := .tuple #[.int .u32 (M : Int), .int .i64 0]) (by simp [results, Tryz.results33, go_sem]) rfl ⟨rfl, bTrans S10.out.2.2.2.1 q10⟩
set_option maxHeartbeats 1000000 in
theorem renc4 (op rd rs1 rs2 n : Int) (s : List UInt8) (c f3 f7 sh : Int) (M1 M2 M3 M4 M : Nat) (l0 : Lay 0 M1 0 7 0 c) (l1 : Lay M1 M2 0 3 12 f3) (l2 : Lay M2 M3 0 5 15 rs1) (l3 : Lay M3 M4 0 5 20 rs2) (hrest : Rest M4 M s 4 c f3 f7 sh n) (hM : M < 4294967296)
    (hR : ∀ w, Calls Tryz.prog 72 #[instV op rd rs1 rs2 n] w fun e w' => e = .returned (.bool true) ∧ Below w.heap.size w w')
    (hO : ∀ w, Calls Tryz.prog 25 #[.int .i64 op] w fun e w' => e = .returned (operV s 4 c f3 f7 sh) ∧ Below w.heap.size w w') (w : World) :
    Calls Tryz.prog 33 #[instV op rd rs1 rs2 n] w fun e w' => e = .returned (.tuple #[.int .u32 (M : Int), .int .i64 0]) ∧ Below w.heap.size w w' := by
  have hnum := fun w => wnumber_any M w hM
  have hB0 := fun w => Box5.new w (.int .i64 op) (.int .i64 rd) (.int .i64 rs1) (.int .i64 rs2) (.int .i64 n) 61
  unfold Rest at hrest
  unfold Lay at l0 l1 l2 l3
  have W0 := Lib.hid (fun (W : World) => Box32.new W 0 121)
  unfold instV operV wordV at *
  have L0 := Lib.hid l0
  have L1 := Lib.hid l1
  have L2 := Lib.hid l2
  have L3 := Lib.hid l3
  have LR := Lib.hid hrest
  have LN := Lib.hid hnum
  have LO := Lib.hid hO
  have LQ := Lib.hid hR
  have LB := Lib.hid hB0
  clear hrest hnum hO hR hB0 hM l0 l1 l2 l3
  go_enter Tryz.func33, Tryz.ntmps33
  go_wp2_with fail
  refine (LQ.out _).mono ?_; rintro e w1 ⟨rfl, q1⟩
  have B1 := Lib.hid ((LB.out w).on q1); have Q1 := Lib.hid (bTrans (bAlloc (Below.refl _ _) _) q1); have Z1 := Lib.hid (LB.out w).lt; clear q1
  obtain ⟨-, c0, c1, c2, c3, c4⟩ := B1.out
  go_wp2_with fail
  refine (LO.out _).mono ?_; rintro e w2 ⟨rfl, q2⟩
  have B2 := Lib.hid (B1.out.on q2); have Q2 := Lib.hid (bTrans Q1.out q2); clear q2 B1 Q1 c0 c1 c2 c3 c4 Z1
  go_upto_region 6 with (go_at_call 73; refine (registers_any _ _).mono ?_; rintro e w' ⟨rfl, rfl⟩)
  have K0 := Lib.hid (boxed (w := w2) (cs := #[.string ⟨s.toArray⟩, .int .i64 4, .int .i64 c, .int .i64 f3, .int .i64 f7, .int .i64 sh]) (t := 57) (Below.refl _ _))
  have B3 := Lib.hid (B2.out.on (bAlloc (Below.refl _ _) (Obj.cells #[.string ⟨s.toArray⟩, .int .i64 4, .int .i64 c, .int .i64 f3, .int .i64 f7, .int .i64 sh] 57)))
  have Q3 := Lib.hid (bAlloc Q2.out (Obj.cells #[.string ⟨s.toArray⟩, .int .i64 4, .int .i64 c, .int .i64 f3, .int .i64 f7, .int .i64 sh] 57))
  have Z2 := Lib.hid (B2.out.lt)
  have Z3 := Lib.hid (size_alloc w2 (Obj.cells #[.string ⟨s.toArray⟩, .int .i64 4, .int .i64 c, .int .i64 f3, .int .i64 f7, .int .i64 sh] 57))
  generalize w2.alloc (Obj.cells #[.string ⟨s.toArray⟩, .int .i64 4, .int .i64 c, .int .i64 f3, .int .i64 f7, .int .i64 sh] 57) = W3 at *
  apply wp_region_lit
  refine wpList_buildTo rfl 121 _ rfl (some 18) rfl (bitsL 0).toArray (by kernel_rfl) ?_
  refine Great.wpList_allocTo rfl (some 7) rfl (.pointer (some ⟨W3.heap.size, 0, none⟩)) (.cells (bitsL 0).toArray 121) (by kernel_rfl) ?_
  have S4 := Lib.hid (show St w (W3.alloc (.cells (bitsL 0).toArray 121)) w2.heap.size W3.heap.size op rd rs1 rs2 n s 4 c f3 f7 sh 0 from by
    obtain ⟨-, a0, a1, a2, a3, a4⟩ := B3.out
    have b0 := (K0.out 0).trans rfl; have b1 := (K0.out 1).trans rfl; have b2 := (K0.out 2).trans rfl; have b3 := (K0.out 3).trans rfl; have b4 := (K0.out 4).trans rfl; have b5 := (K0.out 5).trans rfl
    have hb := bAlloc (Below.refl W3.heap.size W3) (Obj.cells (bitsL 0).toArray 121)
    exact ⟨⟨cells_on hb a0, cells_on hb a1, cells_on hb a2, cells_on hb a3, cells_on hb a4⟩, ⟨cells_on hb b0, cells_on hb b1, cells_on hb b2, cells_on hb b3, cells_on hb b4, cells_on hb b5⟩, W0.out W3, bAlloc Q3.out _, Z2.out, by rw [Z3.out]; exact Nat.lt_succ_self _⟩)
  refine wpList_store_mid rfl _ _ _ rfl W3.heap.size 0 (bitsL 0).toArray rfl rfl (thM 0 S4.out.2.2.1) (szM 0) (oneM 0) ?_
  have S5 := Lib.hid (S4.out.put 0)
  generalize W3.heap.size = Q at *
  generalize w2.heap.size = P at *
  clear B2 B3 K0 Q2 Q3 Z2 Z3 S4
  have e0 : (bitsL 0).toArray.toList = bitsL 0 := rfl
  rw [e0]
  clear e0
  generalize World.setCells _ Q 0 (bitsL 0) = W5 at *
  obtain ⟨⟨c0, c1, c2, c3, c4⟩, ⟨d0, d1, d2, d3, d4, d5⟩, -, -, -, -⟩ := S5.out
  go_upto_region 7 with fail
  apply wp_region_lit
  refine wpList_load_mid rfl _ _ rfl Q 0 rfl (bitsL 0) (.array 32 3) S5.out.2.2.1.range Tryz.underlying121 rfl (wordSize 0) ?_
  go_wp2_with fail
  refine (L0.out _).mono ?_; rintro e w5 ⟨rfl, q5⟩
  have S5' := Lib.hid (S5.out.on q5); clear q5 c0 c1 c2 c3 c4 d0 d1 d2 d3 d4 d5 S5
  simp only []
  go_at_K
  rename_i hK
  refine hK _ _ ?_
  clear hK
  refine wpList_store_mid rfl _ _ _ rfl Q 0 (bitsL M1).toArray rfl rfl (thM M1 S5'.out.2.2.1) (szM M1) (oneM M1) ?_
  have S6 := Lib.hid (S5'.out.put M1)
  clear S5'
  have e0 : (bitsL M1).toArray.toList = bitsL M1 := rfl
  rw [e0]
  clear e0
  generalize World.setCells _ Q 0 (bitsL M1) = W6 at *
  obtain ⟨⟨c0, c1, c2, c3, c4⟩, ⟨d0, d1, d2, d3, d4, d5⟩, -, -, -, -⟩ := S6.out
  go_upto_region 9 with fail
  apply wp_region_lit
  refine wpList_load_mid rfl _ _ rfl Q 0 rfl (bitsL M1) (.array 32 3) S6.out.2.2.1.range Tryz.underlying121 rfl (wordSize M1) ?_
  go_wp2_with fail
  refine (L1.out _).mono ?_; rintro e w6 ⟨rfl, q6⟩
  have S6' := Lib.hid (S6.out.on q6); clear q6 c0 c1 c2 c3 c4 d0 d1 d2 d3 d4 d5 S6
  simp only []
  go_at_K
  rename_i hK
  refine hK _ _ ?_
  clear hK
  refine wpList_store_mid rfl _ _ _ rfl Q 0 (bitsL M2).toArray rfl rfl (thM M2 S6'.out.2.2.1) (szM M2) (oneM M2) ?_
  have S7 := Lib.hid (S6'.out.put M2)
  clear S6'
  have e0 : (bitsL M2).toArray.toList = bitsL M2 := rfl
  rw [e0]
  clear e0
  generalize World.setCells _ Q 0 (bitsL M2) = W7 at *
  obtain ⟨⟨c0, c1, c2, c3, c4⟩, ⟨d0, d1, d2, d3, d4, d5⟩, -, -, -, -⟩ := S7.out
  go_upto_region 13 with fail
  apply wp_region_lit
  refine wpList_load_mid rfl _ _ rfl Q 0 rfl (bitsL M2) (.array 32 3) S7.out.2.2.1.range Tryz.underlying121 rfl (wordSize M2) ?_
  go_wp2_with fail
  refine (L2.out _).mono ?_; rintro e w7 ⟨rfl, q7⟩
  have S7' := Lib.hid (S7.out.on q7); clear q7 c0 c1 c2 c3 c4 d0 d1 d2 d3 d4 d5 S7
  simp only []
  go_at_K
  rename_i hK
  refine hK _ _ ?_
  clear hK
  refine wpList_store_mid rfl _ _ _ rfl Q 0 (bitsL M3).toArray rfl rfl (thM M3 S7'.out.2.2.1) (szM M3) (oneM M3) ?_
  have S8 := Lib.hid (S7'.out.put M3)
  clear S7'
  have e0 : (bitsL M3).toArray.toList = bitsL M3 := rfl
  rw [e0]
  clear e0
  generalize World.setCells _ Q 0 (bitsL M3) = W8 at *
  obtain ⟨⟨c0, c1, c2, c3, c4⟩, ⟨d0, d1, d2, d3, d4, d5⟩, -, -, -, -⟩ := S8.out
  go_upto_region 15 with fail
  apply wp_region_lit
  refine wpList_load_mid rfl _ _ rfl Q 0 rfl (bitsL M3) (.array 32 3) S8.out.2.2.1.range Tryz.underlying121 rfl (wordSize M3) ?_
  go_wp2_with fail
  refine (L3.out _).mono ?_; rintro e w8 ⟨rfl, q8⟩
  have S8' := Lib.hid (S8.out.on q8); clear q8 c0 c1 c2 c3 c4 d0 d1 d2 d3 d4 d5 S8
  simp only []
  go_at_K
  rename_i hK
  refine hK _ _ ?_
  clear hK
  refine wpList_store_mid rfl _ _ _ rfl Q 0 (bitsL M4).toArray rfl rfl (thM M4 S8'.out.2.2.1) (szM M4) (oneM M4) ?_
  have S9 := Lib.hid (S8'.out.put M4)
  clear S8'
  have e0 : (bitsL M4).toArray.toList = bitsL M4 := rfl
  rw [e0]
  clear e0
  generalize World.setCells _ Q 0 (bitsL M4) = W9 at *
  obtain ⟨⟨c0, c1, c2, c3, c4⟩, ⟨d0, d1, d2, d3, d4, d5⟩, -, -, -, -⟩ := S9.out
  go_upto_region 16 with fail
  apply wp_region_lit
  refine wpList_load_mid rfl _ _ rfl Q 0 rfl (bitsL M4) (.array 32 3) S9.out.2.2.1.range Tryz.underlying121 rfl (wordSize M4) ?_
  go_wp2_with fail
  refine (LR.out _).mono ?_; rintro e w9 ⟨rfl, q9⟩
  have S9' := Lib.hid (S9.out.on q9); clear q9 c0 c1 c2 c3 c4 d0 d1 d2 d3 d4 d5 S9
  simp only []
  go_at_K
  rename_i hK
  refine hK _ _ ?_
  clear hK
  refine wpList_store_mid rfl _ _ _ rfl Q 0 (bitsL M).toArray rfl rfl (thM M S9'.out.2.2.1) (szM M) (oneM M) ?_
  have S10 := Lib.hid (S9'.out.put M)
  clear S9'
  have e0 : (bitsL M).toArray.toList = bitsL M := rfl
  rw [e0]
  clear e0
  generalize World.setCells _ Q 0 (bitsL M) = W10 at *
  go_upto_region 17 with fail
  apply wp_region_lit
  refine wpList_load_mid rfl _ _ rfl Q 0 rfl (bitsL M) (.array 32 3) S10.out.2.2.1.range Tryz.underlying121 rfl (wordSize M) ?_
  go_wp2_with fail
  refine (LN.out _).mono ?_; rintro e w10 ⟨rfl, q10⟩
  go_wp2_with fail
  exact bodyPost_ret (v := .tuple #[.int .u32 (M : Int), .int .i64 0]) (by simp [results, Tryz.results33, go_sem]) rfl ⟨rfl, bTrans S10.out.2.2.2.1 q10⟩
set_option maxHeartbeats 1000000 in
theorem renc5 (op rd rs1 rs2 n : Int) (s : List UInt8) (c f3 f7 sh : Int) (M1 M2 M3 M4 M : Nat) (l0 : Lay 0 M1 0 7 0 c) (l1 : Lay M1 M2 0 3 12 f3) (l2 : Lay M2 M3 0 5 15 rs1) (l3 : Lay M3 M4 0 5 20 rs2) (hrest : Rest M4 M s 5 c f3 f7 sh n) (hM : M < 4294967296)
    (hR : ∀ w, Calls Tryz.prog 72 #[instV op rd rs1 rs2 n] w fun e w' => e = .returned (.bool true) ∧ Below w.heap.size w w')
    (hO : ∀ w, Calls Tryz.prog 25 #[.int .i64 op] w fun e w' => e = .returned (operV s 5 c f3 f7 sh) ∧ Below w.heap.size w w') (w : World) :
    Calls Tryz.prog 33 #[instV op rd rs1 rs2 n] w fun e w' => e = .returned (.tuple #[.int .u32 (M : Int), .int .i64 0]) ∧ Below w.heap.size w w' := by
  have hnum := fun w => wnumber_any M w hM
  have hB0 := fun w => Box5.new w (.int .i64 op) (.int .i64 rd) (.int .i64 rs1) (.int .i64 rs2) (.int .i64 n) 61
  unfold Rest at hrest
  unfold Lay at l0 l1 l2 l3
  have W0 := Lib.hid (fun (W : World) => Box32.new W 0 121)
  unfold instV operV wordV at *
  have L0 := Lib.hid l0
  have L1 := Lib.hid l1
  have L2 := Lib.hid l2
  have L3 := Lib.hid l3
  have LR := Lib.hid hrest
  have LN := Lib.hid hnum
  have LO := Lib.hid hO
  have LQ := Lib.hid hR
  have LB := Lib.hid hB0
  clear hrest hnum hO hR hB0 hM l0 l1 l2 l3
  go_enter Tryz.func33, Tryz.ntmps33
  go_wp2_with fail
  refine (LQ.out _).mono ?_; rintro e w1 ⟨rfl, q1⟩
  have B1 := Lib.hid ((LB.out w).on q1); have Q1 := Lib.hid (bTrans (bAlloc (Below.refl _ _) _) q1); have Z1 := Lib.hid (LB.out w).lt; clear q1
  obtain ⟨-, c0, c1, c2, c3, c4⟩ := B1.out
  go_wp2_with fail
  refine (LO.out _).mono ?_; rintro e w2 ⟨rfl, q2⟩
  have B2 := Lib.hid (B1.out.on q2); have Q2 := Lib.hid (bTrans Q1.out q2); clear q2 B1 Q1 c0 c1 c2 c3 c4 Z1
  go_upto_region 6 with (go_at_call 73; refine (registers_any _ _).mono ?_; rintro e w' ⟨rfl, rfl⟩)
  have K0 := Lib.hid (boxed (w := w2) (cs := #[.string ⟨s.toArray⟩, .int .i64 5, .int .i64 c, .int .i64 f3, .int .i64 f7, .int .i64 sh]) (t := 57) (Below.refl _ _))
  have B3 := Lib.hid (B2.out.on (bAlloc (Below.refl _ _) (Obj.cells #[.string ⟨s.toArray⟩, .int .i64 5, .int .i64 c, .int .i64 f3, .int .i64 f7, .int .i64 sh] 57)))
  have Q3 := Lib.hid (bAlloc Q2.out (Obj.cells #[.string ⟨s.toArray⟩, .int .i64 5, .int .i64 c, .int .i64 f3, .int .i64 f7, .int .i64 sh] 57))
  have Z2 := Lib.hid (B2.out.lt)
  have Z3 := Lib.hid (size_alloc w2 (Obj.cells #[.string ⟨s.toArray⟩, .int .i64 5, .int .i64 c, .int .i64 f3, .int .i64 f7, .int .i64 sh] 57))
  generalize w2.alloc (Obj.cells #[.string ⟨s.toArray⟩, .int .i64 5, .int .i64 c, .int .i64 f3, .int .i64 f7, .int .i64 sh] 57) = W3 at *
  apply wp_region_lit
  refine wpList_buildTo rfl 121 _ rfl (some 18) rfl (bitsL 0).toArray (by kernel_rfl) ?_
  refine Great.wpList_allocTo rfl (some 7) rfl (.pointer (some ⟨W3.heap.size, 0, none⟩)) (.cells (bitsL 0).toArray 121) (by kernel_rfl) ?_
  have S4 := Lib.hid (show St w (W3.alloc (.cells (bitsL 0).toArray 121)) w2.heap.size W3.heap.size op rd rs1 rs2 n s 5 c f3 f7 sh 0 from by
    obtain ⟨-, a0, a1, a2, a3, a4⟩ := B3.out
    have b0 := (K0.out 0).trans rfl; have b1 := (K0.out 1).trans rfl; have b2 := (K0.out 2).trans rfl; have b3 := (K0.out 3).trans rfl; have b4 := (K0.out 4).trans rfl; have b5 := (K0.out 5).trans rfl
    have hb := bAlloc (Below.refl W3.heap.size W3) (Obj.cells (bitsL 0).toArray 121)
    exact ⟨⟨cells_on hb a0, cells_on hb a1, cells_on hb a2, cells_on hb a3, cells_on hb a4⟩, ⟨cells_on hb b0, cells_on hb b1, cells_on hb b2, cells_on hb b3, cells_on hb b4, cells_on hb b5⟩, W0.out W3, bAlloc Q3.out _, Z2.out, by rw [Z3.out]; exact Nat.lt_succ_self _⟩)
  refine wpList_store_mid rfl _ _ _ rfl W3.heap.size 0 (bitsL 0).toArray rfl rfl (thM 0 S4.out.2.2.1) (szM 0) (oneM 0) ?_
  have S5 := Lib.hid (S4.out.put 0)
  generalize W3.heap.size = Q at *
  generalize w2.heap.size = P at *
  clear B2 B3 K0 Q2 Q3 Z2 Z3 S4
  have e0 : (bitsL 0).toArray.toList = bitsL 0 := rfl
  rw [e0]
  clear e0
  generalize World.setCells _ Q 0 (bitsL 0) = W5 at *
  obtain ⟨⟨c0, c1, c2, c3, c4⟩, ⟨d0, d1, d2, d3, d4, d5⟩, -, -, -, -⟩ := S5.out
  go_upto_region 7 with fail
  apply wp_region_lit
  refine wpList_load_mid rfl _ _ rfl Q 0 rfl (bitsL 0) (.array 32 3) S5.out.2.2.1.range Tryz.underlying121 rfl (wordSize 0) ?_
  go_wp2_with fail
  refine (L0.out _).mono ?_; rintro e w5 ⟨rfl, q5⟩
  have S5' := Lib.hid (S5.out.on q5); clear q5 c0 c1 c2 c3 c4 d0 d1 d2 d3 d4 d5 S5
  simp only []
  go_at_K
  rename_i hK
  refine hK _ _ ?_
  clear hK
  refine wpList_store_mid rfl _ _ _ rfl Q 0 (bitsL M1).toArray rfl rfl (thM M1 S5'.out.2.2.1) (szM M1) (oneM M1) ?_
  have S6 := Lib.hid (S5'.out.put M1)
  clear S5'
  have e0 : (bitsL M1).toArray.toList = bitsL M1 := rfl
  rw [e0]
  clear e0
  generalize World.setCells _ Q 0 (bitsL M1) = W6 at *
  obtain ⟨⟨c0, c1, c2, c3, c4⟩, ⟨d0, d1, d2, d3, d4, d5⟩, -, -, -, -⟩ := S6.out
  go_upto_region 9 with fail
  apply wp_region_lit
  refine wpList_load_mid rfl _ _ rfl Q 0 rfl (bitsL M1) (.array 32 3) S6.out.2.2.1.range Tryz.underlying121 rfl (wordSize M1) ?_
  go_wp2_with fail
  refine (L1.out _).mono ?_; rintro e w6 ⟨rfl, q6⟩
  have S6' := Lib.hid (S6.out.on q6); clear q6 c0 c1 c2 c3 c4 d0 d1 d2 d3 d4 d5 S6
  simp only []
  go_at_K
  rename_i hK
  refine hK _ _ ?_
  clear hK
  refine wpList_store_mid rfl _ _ _ rfl Q 0 (bitsL M2).toArray rfl rfl (thM M2 S6'.out.2.2.1) (szM M2) (oneM M2) ?_
  have S7 := Lib.hid (S6'.out.put M2)
  clear S6'
  have e0 : (bitsL M2).toArray.toList = bitsL M2 := rfl
  rw [e0]
  clear e0
  generalize World.setCells _ Q 0 (bitsL M2) = W7 at *
  obtain ⟨⟨c0, c1, c2, c3, c4⟩, ⟨d0, d1, d2, d3, d4, d5⟩, -, -, -, -⟩ := S7.out
  go_upto_region 13 with fail
  apply wp_region_lit
  refine wpList_load_mid rfl _ _ rfl Q 0 rfl (bitsL M2) (.array 32 3) S7.out.2.2.1.range Tryz.underlying121 rfl (wordSize M2) ?_
  go_wp2_with fail
  refine (L2.out _).mono ?_; rintro e w7 ⟨rfl, q7⟩
  have S7' := Lib.hid (S7.out.on q7); clear q7 c0 c1 c2 c3 c4 d0 d1 d2 d3 d4 d5 S7
  simp only []
  go_at_K
  rename_i hK
  refine hK _ _ ?_
  clear hK
  refine wpList_store_mid rfl _ _ _ rfl Q 0 (bitsL M3).toArray rfl rfl (thM M3 S7'.out.2.2.1) (szM M3) (oneM M3) ?_
  have S8 := Lib.hid (S7'.out.put M3)
  clear S7'
  have e0 : (bitsL M3).toArray.toList = bitsL M3 := rfl
  rw [e0]
  clear e0
  generalize World.setCells _ Q 0 (bitsL M3) = W8 at *
  obtain ⟨⟨c0, c1, c2, c3, c4⟩, ⟨d0, d1, d2, d3, d4, d5⟩, -, -, -, -⟩ := S8.out
  go_upto_region 15 with fail
  apply wp_region_lit
  refine wpList_load_mid rfl _ _ rfl Q 0 rfl (bitsL M3) (.array 32 3) S8.out.2.2.1.range Tryz.underlying121 rfl (wordSize M3) ?_
  go_wp2_with fail
  refine (L3.out _).mono ?_; rintro e w8 ⟨rfl, q8⟩
  have S8' := Lib.hid (S8.out.on q8); clear q8 c0 c1 c2 c3 c4 d0 d1 d2 d3 d4 d5 S8
  simp only []
  go_at_K
  rename_i hK
  refine hK _ _ ?_
  clear hK
  refine wpList_store_mid rfl _ _ _ rfl Q 0 (bitsL M4).toArray rfl rfl (thM M4 S8'.out.2.2.1) (szM M4) (oneM M4) ?_
  have S9 := Lib.hid (S8'.out.put M4)
  clear S8'
  have e0 : (bitsL M4).toArray.toList = bitsL M4 := rfl
  rw [e0]
  clear e0
  generalize World.setCells _ Q 0 (bitsL M4) = W9 at *
  obtain ⟨⟨c0, c1, c2, c3, c4⟩, ⟨d0, d1, d2, d3, d4, d5⟩, -, -, -, -⟩ := S9.out
  go_upto_region 16 with fail
  apply wp_region_lit
  refine wpList_load_mid rfl _ _ rfl Q 0 rfl (bitsL M4) (.array 32 3) S9.out.2.2.1.range Tryz.underlying121 rfl (wordSize M4) ?_
  go_wp2_with fail
  refine (LR.out _).mono ?_; rintro e w9 ⟨rfl, q9⟩
  have S9' := Lib.hid (S9.out.on q9); clear q9 c0 c1 c2 c3 c4 d0 d1 d2 d3 d4 d5 S9
  simp only []
  go_at_K
  rename_i hK
  refine hK _ _ ?_
  clear hK
  refine wpList_store_mid rfl _ _ _ rfl Q 0 (bitsL M).toArray rfl rfl (thM M S9'.out.2.2.1) (szM M) (oneM M) ?_
  have S10 := Lib.hid (S9'.out.put M)
  clear S9'
  have e0 : (bitsL M).toArray.toList = bitsL M := rfl
  rw [e0]
  clear e0
  generalize World.setCells _ Q 0 (bitsL M) = W10 at *
  go_upto_region 17 with fail
  apply wp_region_lit
  refine wpList_load_mid rfl _ _ rfl Q 0 rfl (bitsL M) (.array 32 3) S10.out.2.2.1.range Tryz.underlying121 rfl (wordSize M) ?_
  go_wp2_with fail
  refine (LN.out _).mono ?_; rintro e w10 ⟨rfl, q10⟩
  go_wp2_with fail
  exact bodyPost_ret (v := .tuple #[.int .u32 (M : Int), .int .i64 0]) (by simp [results, Tryz.results33, go_sem]) rfl ⟨rfl, bTrans S10.out.2.2.2.1 q10⟩
set_option maxHeartbeats 1000000 in
theorem renc10 (op rd rs1 rs2 n : Int) (s : List UInt8) (c f3 f7 sh : Int) (M1 M2 M3 M4 M : Nat) (l0 : Lay 0 M1 0 7 0 c) (l1 : Lay M1 M2 0 3 12 f3) (l2 : Lay M2 M3 0 5 15 rs1) (l3 : Lay M3 M4 0 5 20 rs2) (hrest : Rest M4 M s 10 c f3 f7 sh n) (hM : M < 4294967296)
    (hR : ∀ w, Calls Tryz.prog 72 #[instV op rd rs1 rs2 n] w fun e w' => e = .returned (.bool true) ∧ Below w.heap.size w w')
    (hO : ∀ w, Calls Tryz.prog 25 #[.int .i64 op] w fun e w' => e = .returned (operV s 10 c f3 f7 sh) ∧ Below w.heap.size w w') (w : World) :
    Calls Tryz.prog 33 #[instV op rd rs1 rs2 n] w fun e w' => e = .returned (.tuple #[.int .u32 (M : Int), .int .i64 0]) ∧ Below w.heap.size w w' := by
  have hnum := fun w => wnumber_any M w hM
  have hB0 := fun w => Box5.new w (.int .i64 op) (.int .i64 rd) (.int .i64 rs1) (.int .i64 rs2) (.int .i64 n) 61
  unfold Rest at hrest
  unfold Lay at l0 l1 l2 l3
  have W0 := Lib.hid (fun (W : World) => Box32.new W 0 121)
  unfold instV operV wordV at *
  have L0 := Lib.hid l0
  have L1 := Lib.hid l1
  have L2 := Lib.hid l2
  have L3 := Lib.hid l3
  have LR := Lib.hid hrest
  have LN := Lib.hid hnum
  have LO := Lib.hid hO
  have LQ := Lib.hid hR
  have LB := Lib.hid hB0
  clear hrest hnum hO hR hB0 hM l0 l1 l2 l3
  go_enter Tryz.func33, Tryz.ntmps33
  go_wp2_with fail
  refine (LQ.out _).mono ?_; rintro e w1 ⟨rfl, q1⟩
  have B1 := Lib.hid ((LB.out w).on q1); have Q1 := Lib.hid (bTrans (bAlloc (Below.refl _ _) _) q1); have Z1 := Lib.hid (LB.out w).lt; clear q1
  obtain ⟨-, c0, c1, c2, c3, c4⟩ := B1.out
  go_wp2_with fail
  refine (LO.out _).mono ?_; rintro e w2 ⟨rfl, q2⟩
  have B2 := Lib.hid (B1.out.on q2); have Q2 := Lib.hid (bTrans Q1.out q2); clear q2 B1 Q1 c0 c1 c2 c3 c4 Z1
  go_upto_region 6 with (go_at_call 73; refine (registers_any _ _).mono ?_; rintro e w' ⟨rfl, rfl⟩)
  have K0 := Lib.hid (boxed (w := w2) (cs := #[.string ⟨s.toArray⟩, .int .i64 10, .int .i64 c, .int .i64 f3, .int .i64 f7, .int .i64 sh]) (t := 57) (Below.refl _ _))
  have B3 := Lib.hid (B2.out.on (bAlloc (Below.refl _ _) (Obj.cells #[.string ⟨s.toArray⟩, .int .i64 10, .int .i64 c, .int .i64 f3, .int .i64 f7, .int .i64 sh] 57)))
  have Q3 := Lib.hid (bAlloc Q2.out (Obj.cells #[.string ⟨s.toArray⟩, .int .i64 10, .int .i64 c, .int .i64 f3, .int .i64 f7, .int .i64 sh] 57))
  have Z2 := Lib.hid (B2.out.lt)
  have Z3 := Lib.hid (size_alloc w2 (Obj.cells #[.string ⟨s.toArray⟩, .int .i64 10, .int .i64 c, .int .i64 f3, .int .i64 f7, .int .i64 sh] 57))
  generalize w2.alloc (Obj.cells #[.string ⟨s.toArray⟩, .int .i64 10, .int .i64 c, .int .i64 f3, .int .i64 f7, .int .i64 sh] 57) = W3 at *
  apply wp_region_lit
  refine wpList_buildTo rfl 121 _ rfl (some 18) rfl (bitsL 0).toArray (by kernel_rfl) ?_
  refine Great.wpList_allocTo rfl (some 7) rfl (.pointer (some ⟨W3.heap.size, 0, none⟩)) (.cells (bitsL 0).toArray 121) (by kernel_rfl) ?_
  have S4 := Lib.hid (show St w (W3.alloc (.cells (bitsL 0).toArray 121)) w2.heap.size W3.heap.size op rd rs1 rs2 n s 10 c f3 f7 sh 0 from by
    obtain ⟨-, a0, a1, a2, a3, a4⟩ := B3.out
    have b0 := (K0.out 0).trans rfl; have b1 := (K0.out 1).trans rfl; have b2 := (K0.out 2).trans rfl; have b3 := (K0.out 3).trans rfl; have b4 := (K0.out 4).trans rfl; have b5 := (K0.out 5).trans rfl
    have hb := bAlloc (Below.refl W3.heap.size W3) (Obj.cells (bitsL 0).toArray 121)
    exact ⟨⟨cells_on hb a0, cells_on hb a1, cells_on hb a2, cells_on hb a3, cells_on hb a4⟩, ⟨cells_on hb b0, cells_on hb b1, cells_on hb b2, cells_on hb b3, cells_on hb b4, cells_on hb b5⟩, W0.out W3, bAlloc Q3.out _, Z2.out, by rw [Z3.out]; exact Nat.lt_succ_self _⟩)
  refine wpList_store_mid rfl _ _ _ rfl W3.heap.size 0 (bitsL 0).toArray rfl rfl (thM 0 S4.out.2.2.1) (szM 0) (oneM 0) ?_
  have S5 := Lib.hid (S4.out.put 0)
  generalize W3.heap.size = Q at *
  generalize w2.heap.size = P at *
  clear B2 B3 K0 Q2 Q3 Z2 Z3 S4
  have e0 : (bitsL 0).toArray.toList = bitsL 0 := rfl
  rw [e0]
  clear e0
  generalize World.setCells _ Q 0 (bitsL 0) = W5 at *
  obtain ⟨⟨c0, c1, c2, c3, c4⟩, ⟨d0, d1, d2, d3, d4, d5⟩, -, -, -, -⟩ := S5.out
  go_upto_region 7 with fail
  apply wp_region_lit
  refine wpList_load_mid rfl _ _ rfl Q 0 rfl (bitsL 0) (.array 32 3) S5.out.2.2.1.range Tryz.underlying121 rfl (wordSize 0) ?_
  go_wp2_with fail
  refine (L0.out _).mono ?_; rintro e w5 ⟨rfl, q5⟩
  have S5' := Lib.hid (S5.out.on q5); clear q5 c0 c1 c2 c3 c4 d0 d1 d2 d3 d4 d5 S5
  simp only []
  go_at_K
  rename_i hK
  refine hK _ _ ?_
  clear hK
  refine wpList_store_mid rfl _ _ _ rfl Q 0 (bitsL M1).toArray rfl rfl (thM M1 S5'.out.2.2.1) (szM M1) (oneM M1) ?_
  have S6 := Lib.hid (S5'.out.put M1)
  clear S5'
  have e0 : (bitsL M1).toArray.toList = bitsL M1 := rfl
  rw [e0]
  clear e0
  generalize World.setCells _ Q 0 (bitsL M1) = W6 at *
  obtain ⟨⟨c0, c1, c2, c3, c4⟩, ⟨d0, d1, d2, d3, d4, d5⟩, -, -, -, -⟩ := S6.out
  go_upto_region 9 with fail
  apply wp_region_lit
  refine wpList_load_mid rfl _ _ rfl Q 0 rfl (bitsL M1) (.array 32 3) S6.out.2.2.1.range Tryz.underlying121 rfl (wordSize M1) ?_
  go_wp2_with fail
  refine (L1.out _).mono ?_; rintro e w6 ⟨rfl, q6⟩
  have S6' := Lib.hid (S6.out.on q6); clear q6 c0 c1 c2 c3 c4 d0 d1 d2 d3 d4 d5 S6
  simp only []
  go_at_K
  rename_i hK
  refine hK _ _ ?_
  clear hK
  refine wpList_store_mid rfl _ _ _ rfl Q 0 (bitsL M2).toArray rfl rfl (thM M2 S6'.out.2.2.1) (szM M2) (oneM M2) ?_
  have S7 := Lib.hid (S6'.out.put M2)
  clear S6'
  have e0 : (bitsL M2).toArray.toList = bitsL M2 := rfl
  rw [e0]
  clear e0
  generalize World.setCells _ Q 0 (bitsL M2) = W7 at *
  obtain ⟨⟨c0, c1, c2, c3, c4⟩, ⟨d0, d1, d2, d3, d4, d5⟩, -, -, -, -⟩ := S7.out
  go_upto_region 13 with fail
  apply wp_region_lit
  refine wpList_load_mid rfl _ _ rfl Q 0 rfl (bitsL M2) (.array 32 3) S7.out.2.2.1.range Tryz.underlying121 rfl (wordSize M2) ?_
  go_wp2_with fail
  refine (L2.out _).mono ?_; rintro e w7 ⟨rfl, q7⟩
  have S7' := Lib.hid (S7.out.on q7); clear q7 c0 c1 c2 c3 c4 d0 d1 d2 d3 d4 d5 S7
  simp only []
  go_at_K
  rename_i hK
  refine hK _ _ ?_
  clear hK
  refine wpList_store_mid rfl _ _ _ rfl Q 0 (bitsL M3).toArray rfl rfl (thM M3 S7'.out.2.2.1) (szM M3) (oneM M3) ?_
  have S8 := Lib.hid (S7'.out.put M3)
  clear S7'
  have e0 : (bitsL M3).toArray.toList = bitsL M3 := rfl
  rw [e0]
  clear e0
  generalize World.setCells _ Q 0 (bitsL M3) = W8 at *
  obtain ⟨⟨c0, c1, c2, c3, c4⟩, ⟨d0, d1, d2, d3, d4, d5⟩, -, -, -, -⟩ := S8.out
  go_upto_region 15 with fail
  apply wp_region_lit
  refine wpList_load_mid rfl _ _ rfl Q 0 rfl (bitsL M3) (.array 32 3) S8.out.2.2.1.range Tryz.underlying121 rfl (wordSize M3) ?_
  go_wp2_with fail
  refine (L3.out _).mono ?_; rintro e w8 ⟨rfl, q8⟩
  have S8' := Lib.hid (S8.out.on q8); clear q8 c0 c1 c2 c3 c4 d0 d1 d2 d3 d4 d5 S8
  simp only []
  go_at_K
  rename_i hK
  refine hK _ _ ?_
  clear hK
  refine wpList_store_mid rfl _ _ _ rfl Q 0 (bitsL M4).toArray rfl rfl (thM M4 S8'.out.2.2.1) (szM M4) (oneM M4) ?_
  have S9 := Lib.hid (S8'.out.put M4)
  clear S8'
  have e0 : (bitsL M4).toArray.toList = bitsL M4 := rfl
  rw [e0]
  clear e0
  generalize World.setCells _ Q 0 (bitsL M4) = W9 at *
  obtain ⟨⟨c0, c1, c2, c3, c4⟩, ⟨d0, d1, d2, d3, d4, d5⟩, -, -, -, -⟩ := S9.out
  go_upto_region 16 with fail
  apply wp_region_lit
  refine wpList_load_mid rfl _ _ rfl Q 0 rfl (bitsL M4) (.array 32 3) S9.out.2.2.1.range Tryz.underlying121 rfl (wordSize M4) ?_
  go_wp2_with fail
  refine (LR.out _).mono ?_; rintro e w9 ⟨rfl, q9⟩
  have S9' := Lib.hid (S9.out.on q9); clear q9 c0 c1 c2 c3 c4 d0 d1 d2 d3 d4 d5 S9
  simp only []
  go_at_K
  rename_i hK
  refine hK _ _ ?_
  clear hK
  refine wpList_store_mid rfl _ _ _ rfl Q 0 (bitsL M).toArray rfl rfl (thM M S9'.out.2.2.1) (szM M) (oneM M) ?_
  have S10 := Lib.hid (S9'.out.put M)
  clear S9'
  have e0 : (bitsL M).toArray.toList = bitsL M := rfl
  rw [e0]
  clear e0
  generalize World.setCells _ Q 0 (bitsL M) = W10 at *
  go_upto_region 17 with fail
  apply wp_region_lit
  refine wpList_load_mid rfl _ _ rfl Q 0 rfl (bitsL M) (.array 32 3) S10.out.2.2.1.range Tryz.underlying121 rfl (wordSize M) ?_
  go_wp2_with fail
  refine (LN.out _).mono ?_; rintro e w10 ⟨rfl, q10⟩
  go_wp2_with fail
  exact bodyPost_ret (v := .tuple #[.int .u32 (M : Int), .int .i64 0]) (by simp [results, Tryz.results33, go_sem]) rfl ⟨rfl, bTrans S10.out.2.2.2.1 q10⟩
set_option maxHeartbeats 1000000 in
theorem renc6 (op rd rs1 rs2 n : Int) (s : List UInt8) (c f3 f7 sh : Int) (M1 M2 M : Nat) (l0 : Lay 0 M1 0 7 0 c) (l1 : Lay M1 M2 0 5 7 rd) (hrest : Rest M2 M s 6 c f3 f7 sh n) (hM : M < 4294967296)
    (hR : ∀ w, Calls Tryz.prog 72 #[instV op rd rs1 rs2 n] w fun e w' => e = .returned (.bool true) ∧ Below w.heap.size w w')
    (hO : ∀ w, Calls Tryz.prog 25 #[.int .i64 op] w fun e w' => e = .returned (operV s 6 c f3 f7 sh) ∧ Below w.heap.size w w') (w : World) :
    Calls Tryz.prog 33 #[instV op rd rs1 rs2 n] w fun e w' => e = .returned (.tuple #[.int .u32 (M : Int), .int .i64 0]) ∧ Below w.heap.size w w' := by
  have hnum := fun w => wnumber_any M w hM
  have hB0 := fun w => Box5.new w (.int .i64 op) (.int .i64 rd) (.int .i64 rs1) (.int .i64 rs2) (.int .i64 n) 61
  unfold Rest at hrest
  unfold Lay at l0 l1
  have W0 := Lib.hid (fun (W : World) => Box32.new W 0 121)
  unfold instV operV wordV at *
  have L0 := Lib.hid l0
  have L1 := Lib.hid l1
  have LR := Lib.hid hrest
  have LN := Lib.hid hnum
  have LO := Lib.hid hO
  have LQ := Lib.hid hR
  have LB := Lib.hid hB0
  clear hrest hnum hO hR hB0 hM l0 l1
  go_enter Tryz.func33, Tryz.ntmps33
  go_wp2_with fail
  refine (LQ.out _).mono ?_; rintro e w1 ⟨rfl, q1⟩
  have B1 := Lib.hid ((LB.out w).on q1); have Q1 := Lib.hid (bTrans (bAlloc (Below.refl _ _) _) q1); have Z1 := Lib.hid (LB.out w).lt; clear q1
  obtain ⟨-, c0, c1, c2, c3, c4⟩ := B1.out
  go_wp2_with fail
  refine (LO.out _).mono ?_; rintro e w2 ⟨rfl, q2⟩
  have B2 := Lib.hid (B1.out.on q2); have Q2 := Lib.hid (bTrans Q1.out q2); clear q2 B1 Q1 c0 c1 c2 c3 c4 Z1
  go_upto_region 6 with (go_at_call 73; refine (registers_any _ _).mono ?_; rintro e w' ⟨rfl, rfl⟩)
  have K0 := Lib.hid (boxed (w := w2) (cs := #[.string ⟨s.toArray⟩, .int .i64 6, .int .i64 c, .int .i64 f3, .int .i64 f7, .int .i64 sh]) (t := 57) (Below.refl _ _))
  have B3 := Lib.hid (B2.out.on (bAlloc (Below.refl _ _) (Obj.cells #[.string ⟨s.toArray⟩, .int .i64 6, .int .i64 c, .int .i64 f3, .int .i64 f7, .int .i64 sh] 57)))
  have Q3 := Lib.hid (bAlloc Q2.out (Obj.cells #[.string ⟨s.toArray⟩, .int .i64 6, .int .i64 c, .int .i64 f3, .int .i64 f7, .int .i64 sh] 57))
  have Z2 := Lib.hid (B2.out.lt)
  have Z3 := Lib.hid (size_alloc w2 (Obj.cells #[.string ⟨s.toArray⟩, .int .i64 6, .int .i64 c, .int .i64 f3, .int .i64 f7, .int .i64 sh] 57))
  generalize w2.alloc (Obj.cells #[.string ⟨s.toArray⟩, .int .i64 6, .int .i64 c, .int .i64 f3, .int .i64 f7, .int .i64 sh] 57) = W3 at *
  apply wp_region_lit
  refine wpList_buildTo rfl 121 _ rfl (some 18) rfl (bitsL 0).toArray (by kernel_rfl) ?_
  refine Great.wpList_allocTo rfl (some 7) rfl (.pointer (some ⟨W3.heap.size, 0, none⟩)) (.cells (bitsL 0).toArray 121) (by kernel_rfl) ?_
  have S4 := Lib.hid (show St w (W3.alloc (.cells (bitsL 0).toArray 121)) w2.heap.size W3.heap.size op rd rs1 rs2 n s 6 c f3 f7 sh 0 from by
    obtain ⟨-, a0, a1, a2, a3, a4⟩ := B3.out
    have b0 := (K0.out 0).trans rfl; have b1 := (K0.out 1).trans rfl; have b2 := (K0.out 2).trans rfl; have b3 := (K0.out 3).trans rfl; have b4 := (K0.out 4).trans rfl; have b5 := (K0.out 5).trans rfl
    have hb := bAlloc (Below.refl W3.heap.size W3) (Obj.cells (bitsL 0).toArray 121)
    exact ⟨⟨cells_on hb a0, cells_on hb a1, cells_on hb a2, cells_on hb a3, cells_on hb a4⟩, ⟨cells_on hb b0, cells_on hb b1, cells_on hb b2, cells_on hb b3, cells_on hb b4, cells_on hb b5⟩, W0.out W3, bAlloc Q3.out _, Z2.out, by rw [Z3.out]; exact Nat.lt_succ_self _⟩)
  refine wpList_store_mid rfl _ _ _ rfl W3.heap.size 0 (bitsL 0).toArray rfl rfl (thM 0 S4.out.2.2.1) (szM 0) (oneM 0) ?_
  have S5 := Lib.hid (S4.out.put 0)
  generalize W3.heap.size = Q at *
  generalize w2.heap.size = P at *
  clear B2 B3 K0 Q2 Q3 Z2 Z3 S4
  have e0 : (bitsL 0).toArray.toList = bitsL 0 := rfl
  rw [e0]
  clear e0
  generalize World.setCells _ Q 0 (bitsL 0) = W5 at *
  obtain ⟨⟨c0, c1, c2, c3, c4⟩, ⟨d0, d1, d2, d3, d4, d5⟩, -, -, -, -⟩ := S5.out
  go_upto_region 7 with fail
  apply wp_region_lit
  refine wpList_load_mid rfl _ _ rfl Q 0 rfl (bitsL 0) (.array 32 3) S5.out.2.2.1.range Tryz.underlying121 rfl (wordSize 0) ?_
  go_wp2_with fail
  refine (L0.out _).mono ?_; rintro e w5 ⟨rfl, q5⟩
  have S5' := Lib.hid (S5.out.on q5); clear q5 c0 c1 c2 c3 c4 d0 d1 d2 d3 d4 d5 S5
  simp only []
  go_at_K
  rename_i hK
  refine hK _ _ ?_
  clear hK
  refine wpList_store_mid rfl _ _ _ rfl Q 0 (bitsL M1).toArray rfl rfl (thM M1 S5'.out.2.2.1) (szM M1) (oneM M1) ?_
  have S6 := Lib.hid (S5'.out.put M1)
  clear S5'
  have e0 : (bitsL M1).toArray.toList = bitsL M1 := rfl
  rw [e0]
  clear e0
  generalize World.setCells _ Q 0 (bitsL M1) = W6 at *
  obtain ⟨⟨c0, c1, c2, c3, c4⟩, ⟨d0, d1, d2, d3, d4, d5⟩, -, -, -, -⟩ := S6.out
  go_upto_region 11 with fail
  apply wp_region_lit
  refine wpList_load_mid rfl _ _ rfl Q 0 rfl (bitsL M1) (.array 32 3) S6.out.2.2.1.range Tryz.underlying121 rfl (wordSize M1) ?_
  go_wp2_with fail
  refine (L1.out _).mono ?_; rintro e w6 ⟨rfl, q6⟩
  have S6' := Lib.hid (S6.out.on q6); clear q6 c0 c1 c2 c3 c4 d0 d1 d2 d3 d4 d5 S6
  simp only []
  go_at_K
  rename_i hK
  refine hK _ _ ?_
  clear hK
  refine wpList_store_mid rfl _ _ _ rfl Q 0 (bitsL M2).toArray rfl rfl (thM M2 S6'.out.2.2.1) (szM M2) (oneM M2) ?_
  have S7 := Lib.hid (S6'.out.put M2)
  clear S6'
  have e0 : (bitsL M2).toArray.toList = bitsL M2 := rfl
  rw [e0]
  clear e0
  generalize World.setCells _ Q 0 (bitsL M2) = W7 at *
  obtain ⟨⟨c0, c1, c2, c3, c4⟩, ⟨d0, d1, d2, d3, d4, d5⟩, -, -, -, -⟩ := S7.out
  go_upto_region 16 with fail
  apply wp_region_lit
  refine wpList_load_mid rfl _ _ rfl Q 0 rfl (bitsL M2) (.array 32 3) S7.out.2.2.1.range Tryz.underlying121 rfl (wordSize M2) ?_
  go_wp2_with fail
  refine (LR.out _).mono ?_; rintro e w7 ⟨rfl, q7⟩
  have S7' := Lib.hid (S7.out.on q7); clear q7 c0 c1 c2 c3 c4 d0 d1 d2 d3 d4 d5 S7
  simp only []
  go_at_K
  rename_i hK
  refine hK _ _ ?_
  clear hK
  refine wpList_store_mid rfl _ _ _ rfl Q 0 (bitsL M).toArray rfl rfl (thM M S7'.out.2.2.1) (szM M) (oneM M) ?_
  have S8 := Lib.hid (S7'.out.put M)
  clear S7'
  have e0 : (bitsL M).toArray.toList = bitsL M := rfl
  rw [e0]
  clear e0
  generalize World.setCells _ Q 0 (bitsL M) = W8 at *
  go_upto_region 17 with fail
  apply wp_region_lit
  refine wpList_load_mid rfl _ _ rfl Q 0 rfl (bitsL M) (.array 32 3) S8.out.2.2.1.range Tryz.underlying121 rfl (wordSize M) ?_
  go_wp2_with fail
  refine (LN.out _).mono ?_; rintro e w8 ⟨rfl, q8⟩
  go_wp2_with fail
  exact bodyPost_ret (v := .tuple #[.int .u32 (M : Int), .int .i64 0]) (by simp [results, Tryz.results33, go_sem]) rfl ⟨rfl, bTrans S8.out.2.2.2.1 q8⟩
set_option maxHeartbeats 1000000 in
theorem renc7 (op rd rs1 rs2 n : Int) (s : List UInt8) (c f3 f7 sh : Int) (M1 M2 M : Nat) (l0 : Lay 0 M1 0 7 0 c) (l1 : Lay M1 M2 0 5 7 rd) (hrest : Rest M2 M s 7 c f3 f7 sh n) (hM : M < 4294967296)
    (hR : ∀ w, Calls Tryz.prog 72 #[instV op rd rs1 rs2 n] w fun e w' => e = .returned (.bool true) ∧ Below w.heap.size w w')
    (hO : ∀ w, Calls Tryz.prog 25 #[.int .i64 op] w fun e w' => e = .returned (operV s 7 c f3 f7 sh) ∧ Below w.heap.size w w') (w : World) :
    Calls Tryz.prog 33 #[instV op rd rs1 rs2 n] w fun e w' => e = .returned (.tuple #[.int .u32 (M : Int), .int .i64 0]) ∧ Below w.heap.size w w' := by
  have hnum := fun w => wnumber_any M w hM
  have hB0 := fun w => Box5.new w (.int .i64 op) (.int .i64 rd) (.int .i64 rs1) (.int .i64 rs2) (.int .i64 n) 61
  unfold Rest at hrest
  unfold Lay at l0 l1
  have W0 := Lib.hid (fun (W : World) => Box32.new W 0 121)
  unfold instV operV wordV at *
  have L0 := Lib.hid l0
  have L1 := Lib.hid l1
  have LR := Lib.hid hrest
  have LN := Lib.hid hnum
  have LO := Lib.hid hO
  have LQ := Lib.hid hR
  have LB := Lib.hid hB0
  clear hrest hnum hO hR hB0 hM l0 l1
  go_enter Tryz.func33, Tryz.ntmps33
  go_wp2_with fail
  refine (LQ.out _).mono ?_; rintro e w1 ⟨rfl, q1⟩
  have B1 := Lib.hid ((LB.out w).on q1); have Q1 := Lib.hid (bTrans (bAlloc (Below.refl _ _) _) q1); have Z1 := Lib.hid (LB.out w).lt; clear q1
  obtain ⟨-, c0, c1, c2, c3, c4⟩ := B1.out
  go_wp2_with fail
  refine (LO.out _).mono ?_; rintro e w2 ⟨rfl, q2⟩
  have B2 := Lib.hid (B1.out.on q2); have Q2 := Lib.hid (bTrans Q1.out q2); clear q2 B1 Q1 c0 c1 c2 c3 c4 Z1
  go_upto_region 6 with (go_at_call 73; refine (registers_any _ _).mono ?_; rintro e w' ⟨rfl, rfl⟩)
  have K0 := Lib.hid (boxed (w := w2) (cs := #[.string ⟨s.toArray⟩, .int .i64 7, .int .i64 c, .int .i64 f3, .int .i64 f7, .int .i64 sh]) (t := 57) (Below.refl _ _))
  have B3 := Lib.hid (B2.out.on (bAlloc (Below.refl _ _) (Obj.cells #[.string ⟨s.toArray⟩, .int .i64 7, .int .i64 c, .int .i64 f3, .int .i64 f7, .int .i64 sh] 57)))
  have Q3 := Lib.hid (bAlloc Q2.out (Obj.cells #[.string ⟨s.toArray⟩, .int .i64 7, .int .i64 c, .int .i64 f3, .int .i64 f7, .int .i64 sh] 57))
  have Z2 := Lib.hid (B2.out.lt)
  have Z3 := Lib.hid (size_alloc w2 (Obj.cells #[.string ⟨s.toArray⟩, .int .i64 7, .int .i64 c, .int .i64 f3, .int .i64 f7, .int .i64 sh] 57))
  generalize w2.alloc (Obj.cells #[.string ⟨s.toArray⟩, .int .i64 7, .int .i64 c, .int .i64 f3, .int .i64 f7, .int .i64 sh] 57) = W3 at *
  apply wp_region_lit
  refine wpList_buildTo rfl 121 _ rfl (some 18) rfl (bitsL 0).toArray (by kernel_rfl) ?_
  refine Great.wpList_allocTo rfl (some 7) rfl (.pointer (some ⟨W3.heap.size, 0, none⟩)) (.cells (bitsL 0).toArray 121) (by kernel_rfl) ?_
  have S4 := Lib.hid (show St w (W3.alloc (.cells (bitsL 0).toArray 121)) w2.heap.size W3.heap.size op rd rs1 rs2 n s 7 c f3 f7 sh 0 from by
    obtain ⟨-, a0, a1, a2, a3, a4⟩ := B3.out
    have b0 := (K0.out 0).trans rfl; have b1 := (K0.out 1).trans rfl; have b2 := (K0.out 2).trans rfl; have b3 := (K0.out 3).trans rfl; have b4 := (K0.out 4).trans rfl; have b5 := (K0.out 5).trans rfl
    have hb := bAlloc (Below.refl W3.heap.size W3) (Obj.cells (bitsL 0).toArray 121)
    exact ⟨⟨cells_on hb a0, cells_on hb a1, cells_on hb a2, cells_on hb a3, cells_on hb a4⟩, ⟨cells_on hb b0, cells_on hb b1, cells_on hb b2, cells_on hb b3, cells_on hb b4, cells_on hb b5⟩, W0.out W3, bAlloc Q3.out _, Z2.out, by rw [Z3.out]; exact Nat.lt_succ_self _⟩)
  refine wpList_store_mid rfl _ _ _ rfl W3.heap.size 0 (bitsL 0).toArray rfl rfl (thM 0 S4.out.2.2.1) (szM 0) (oneM 0) ?_
  have S5 := Lib.hid (S4.out.put 0)
  generalize W3.heap.size = Q at *
  generalize w2.heap.size = P at *
  clear B2 B3 K0 Q2 Q3 Z2 Z3 S4
  have e0 : (bitsL 0).toArray.toList = bitsL 0 := rfl
  rw [e0]
  clear e0
  generalize World.setCells _ Q 0 (bitsL 0) = W5 at *
  obtain ⟨⟨c0, c1, c2, c3, c4⟩, ⟨d0, d1, d2, d3, d4, d5⟩, -, -, -, -⟩ := S5.out
  go_upto_region 7 with fail
  apply wp_region_lit
  refine wpList_load_mid rfl _ _ rfl Q 0 rfl (bitsL 0) (.array 32 3) S5.out.2.2.1.range Tryz.underlying121 rfl (wordSize 0) ?_
  go_wp2_with fail
  refine (L0.out _).mono ?_; rintro e w5 ⟨rfl, q5⟩
  have S5' := Lib.hid (S5.out.on q5); clear q5 c0 c1 c2 c3 c4 d0 d1 d2 d3 d4 d5 S5
  simp only []
  go_at_K
  rename_i hK
  refine hK _ _ ?_
  clear hK
  refine wpList_store_mid rfl _ _ _ rfl Q 0 (bitsL M1).toArray rfl rfl (thM M1 S5'.out.2.2.1) (szM M1) (oneM M1) ?_
  have S6 := Lib.hid (S5'.out.put M1)
  clear S5'
  have e0 : (bitsL M1).toArray.toList = bitsL M1 := rfl
  rw [e0]
  clear e0
  generalize World.setCells _ Q 0 (bitsL M1) = W6 at *
  obtain ⟨⟨c0, c1, c2, c3, c4⟩, ⟨d0, d1, d2, d3, d4, d5⟩, -, -, -, -⟩ := S6.out
  go_upto_region 11 with fail
  apply wp_region_lit
  refine wpList_load_mid rfl _ _ rfl Q 0 rfl (bitsL M1) (.array 32 3) S6.out.2.2.1.range Tryz.underlying121 rfl (wordSize M1) ?_
  go_wp2_with fail
  refine (L1.out _).mono ?_; rintro e w6 ⟨rfl, q6⟩
  have S6' := Lib.hid (S6.out.on q6); clear q6 c0 c1 c2 c3 c4 d0 d1 d2 d3 d4 d5 S6
  simp only []
  go_at_K
  rename_i hK
  refine hK _ _ ?_
  clear hK
  refine wpList_store_mid rfl _ _ _ rfl Q 0 (bitsL M2).toArray rfl rfl (thM M2 S6'.out.2.2.1) (szM M2) (oneM M2) ?_
  have S7 := Lib.hid (S6'.out.put M2)
  clear S6'
  have e0 : (bitsL M2).toArray.toList = bitsL M2 := rfl
  rw [e0]
  clear e0
  generalize World.setCells _ Q 0 (bitsL M2) = W7 at *
  obtain ⟨⟨c0, c1, c2, c3, c4⟩, ⟨d0, d1, d2, d3, d4, d5⟩, -, -, -, -⟩ := S7.out
  go_upto_region 16 with fail
  apply wp_region_lit
  refine wpList_load_mid rfl _ _ rfl Q 0 rfl (bitsL M2) (.array 32 3) S7.out.2.2.1.range Tryz.underlying121 rfl (wordSize M2) ?_
  go_wp2_with fail
  refine (LR.out _).mono ?_; rintro e w7 ⟨rfl, q7⟩
  have S7' := Lib.hid (S7.out.on q7); clear q7 c0 c1 c2 c3 c4 d0 d1 d2 d3 d4 d5 S7
  simp only []
  go_at_K
  rename_i hK
  refine hK _ _ ?_
  clear hK
  refine wpList_store_mid rfl _ _ _ rfl Q 0 (bitsL M).toArray rfl rfl (thM M S7'.out.2.2.1) (szM M) (oneM M) ?_
  have S8 := Lib.hid (S7'.out.put M)
  clear S7'
  have e0 : (bitsL M).toArray.toList = bitsL M := rfl
  rw [e0]
  clear e0
  generalize World.setCells _ Q 0 (bitsL M) = W8 at *
  go_upto_region 17 with fail
  apply wp_region_lit
  refine wpList_load_mid rfl _ _ rfl Q 0 rfl (bitsL M) (.array 32 3) S8.out.2.2.1.range Tryz.underlying121 rfl (wordSize M) ?_
  go_wp2_with fail
  refine (LN.out _).mono ?_; rintro e w8 ⟨rfl, q8⟩
  go_wp2_with fail
  exact bodyPost_ret (v := .tuple #[.int .u32 (M : Int), .int .i64 0]) (by simp [results, Tryz.results33, go_sem]) rfl ⟨rfl, bTrans S8.out.2.2.2.1 q8⟩
set_option maxHeartbeats 1000000 in
theorem renc9 (op rd rs1 rs2 n : Int) (s : List UInt8) (c f3 f7 sh : Int) (M1 M2 M : Nat) (l0 : Lay 0 M1 0 7 0 c) (l1 : Lay M1 M2 0 3 12 f3) (hrest : Rest M2 M s 9 c f3 f7 sh n) (hM : M < 4294967296)
    (hR : ∀ w, Calls Tryz.prog 72 #[instV op rd rs1 rs2 n] w fun e w' => e = .returned (.bool true) ∧ Below w.heap.size w w')
    (hO : ∀ w, Calls Tryz.prog 25 #[.int .i64 op] w fun e w' => e = .returned (operV s 9 c f3 f7 sh) ∧ Below w.heap.size w w') (w : World) :
    Calls Tryz.prog 33 #[instV op rd rs1 rs2 n] w fun e w' => e = .returned (.tuple #[.int .u32 (M : Int), .int .i64 0]) ∧ Below w.heap.size w w' := by
  have hnum := fun w => wnumber_any M w hM
  have hB0 := fun w => Box5.new w (.int .i64 op) (.int .i64 rd) (.int .i64 rs1) (.int .i64 rs2) (.int .i64 n) 61
  unfold Rest at hrest
  unfold Lay at l0 l1
  have W0 := Lib.hid (fun (W : World) => Box32.new W 0 121)
  unfold instV operV wordV at *
  have L0 := Lib.hid l0
  have L1 := Lib.hid l1
  have LR := Lib.hid hrest
  have LN := Lib.hid hnum
  have LO := Lib.hid hO
  have LQ := Lib.hid hR
  have LB := Lib.hid hB0
  clear hrest hnum hO hR hB0 hM l0 l1
  go_enter Tryz.func33, Tryz.ntmps33
  go_wp2_with fail
  refine (LQ.out _).mono ?_; rintro e w1 ⟨rfl, q1⟩
  have B1 := Lib.hid ((LB.out w).on q1); have Q1 := Lib.hid (bTrans (bAlloc (Below.refl _ _) _) q1); have Z1 := Lib.hid (LB.out w).lt; clear q1
  obtain ⟨-, c0, c1, c2, c3, c4⟩ := B1.out
  go_wp2_with fail
  refine (LO.out _).mono ?_; rintro e w2 ⟨rfl, q2⟩
  have B2 := Lib.hid (B1.out.on q2); have Q2 := Lib.hid (bTrans Q1.out q2); clear q2 B1 Q1 c0 c1 c2 c3 c4 Z1
  go_upto_region 6 with (go_at_call 73; refine (registers_any _ _).mono ?_; rintro e w' ⟨rfl, rfl⟩)
  have K0 := Lib.hid (boxed (w := w2) (cs := #[.string ⟨s.toArray⟩, .int .i64 9, .int .i64 c, .int .i64 f3, .int .i64 f7, .int .i64 sh]) (t := 57) (Below.refl _ _))
  have B3 := Lib.hid (B2.out.on (bAlloc (Below.refl _ _) (Obj.cells #[.string ⟨s.toArray⟩, .int .i64 9, .int .i64 c, .int .i64 f3, .int .i64 f7, .int .i64 sh] 57)))
  have Q3 := Lib.hid (bAlloc Q2.out (Obj.cells #[.string ⟨s.toArray⟩, .int .i64 9, .int .i64 c, .int .i64 f3, .int .i64 f7, .int .i64 sh] 57))
  have Z2 := Lib.hid (B2.out.lt)
  have Z3 := Lib.hid (size_alloc w2 (Obj.cells #[.string ⟨s.toArray⟩, .int .i64 9, .int .i64 c, .int .i64 f3, .int .i64 f7, .int .i64 sh] 57))
  generalize w2.alloc (Obj.cells #[.string ⟨s.toArray⟩, .int .i64 9, .int .i64 c, .int .i64 f3, .int .i64 f7, .int .i64 sh] 57) = W3 at *
  apply wp_region_lit
  refine wpList_buildTo rfl 121 _ rfl (some 18) rfl (bitsL 0).toArray (by kernel_rfl) ?_
  refine Great.wpList_allocTo rfl (some 7) rfl (.pointer (some ⟨W3.heap.size, 0, none⟩)) (.cells (bitsL 0).toArray 121) (by kernel_rfl) ?_
  have S4 := Lib.hid (show St w (W3.alloc (.cells (bitsL 0).toArray 121)) w2.heap.size W3.heap.size op rd rs1 rs2 n s 9 c f3 f7 sh 0 from by
    obtain ⟨-, a0, a1, a2, a3, a4⟩ := B3.out
    have b0 := (K0.out 0).trans rfl; have b1 := (K0.out 1).trans rfl; have b2 := (K0.out 2).trans rfl; have b3 := (K0.out 3).trans rfl; have b4 := (K0.out 4).trans rfl; have b5 := (K0.out 5).trans rfl
    have hb := bAlloc (Below.refl W3.heap.size W3) (Obj.cells (bitsL 0).toArray 121)
    exact ⟨⟨cells_on hb a0, cells_on hb a1, cells_on hb a2, cells_on hb a3, cells_on hb a4⟩, ⟨cells_on hb b0, cells_on hb b1, cells_on hb b2, cells_on hb b3, cells_on hb b4, cells_on hb b5⟩, W0.out W3, bAlloc Q3.out _, Z2.out, by rw [Z3.out]; exact Nat.lt_succ_self _⟩)
  refine wpList_store_mid rfl _ _ _ rfl W3.heap.size 0 (bitsL 0).toArray rfl rfl (thM 0 S4.out.2.2.1) (szM 0) (oneM 0) ?_
  have S5 := Lib.hid (S4.out.put 0)
  generalize W3.heap.size = Q at *
  generalize w2.heap.size = P at *
  clear B2 B3 K0 Q2 Q3 Z2 Z3 S4
  have e0 : (bitsL 0).toArray.toList = bitsL 0 := rfl
  rw [e0]
  clear e0
  generalize World.setCells _ Q 0 (bitsL 0) = W5 at *
  obtain ⟨⟨c0, c1, c2, c3, c4⟩, ⟨d0, d1, d2, d3, d4, d5⟩, -, -, -, -⟩ := S5.out
  go_upto_region 7 with fail
  apply wp_region_lit
  refine wpList_load_mid rfl _ _ rfl Q 0 rfl (bitsL 0) (.array 32 3) S5.out.2.2.1.range Tryz.underlying121 rfl (wordSize 0) ?_
  go_wp2_with fail
  refine (L0.out _).mono ?_; rintro e w5 ⟨rfl, q5⟩
  have S5' := Lib.hid (S5.out.on q5); clear q5 c0 c1 c2 c3 c4 d0 d1 d2 d3 d4 d5 S5
  simp only []
  go_at_K
  rename_i hK
  refine hK _ _ ?_
  clear hK
  refine wpList_store_mid rfl _ _ _ rfl Q 0 (bitsL M1).toArray rfl rfl (thM M1 S5'.out.2.2.1) (szM M1) (oneM M1) ?_
  have S6 := Lib.hid (S5'.out.put M1)
  clear S5'
  have e0 : (bitsL M1).toArray.toList = bitsL M1 := rfl
  rw [e0]
  clear e0
  generalize World.setCells _ Q 0 (bitsL M1) = W6 at *
  obtain ⟨⟨c0, c1, c2, c3, c4⟩, ⟨d0, d1, d2, d3, d4, d5⟩, -, -, -, -⟩ := S6.out
  go_upto_region 9 with fail
  apply wp_region_lit
  refine wpList_load_mid rfl _ _ rfl Q 0 rfl (bitsL M1) (.array 32 3) S6.out.2.2.1.range Tryz.underlying121 rfl (wordSize M1) ?_
  go_wp2_with fail
  refine (L1.out _).mono ?_; rintro e w6 ⟨rfl, q6⟩
  have S6' := Lib.hid (S6.out.on q6); clear q6 c0 c1 c2 c3 c4 d0 d1 d2 d3 d4 d5 S6
  simp only []
  go_at_K
  rename_i hK
  refine hK _ _ ?_
  clear hK
  refine wpList_store_mid rfl _ _ _ rfl Q 0 (bitsL M2).toArray rfl rfl (thM M2 S6'.out.2.2.1) (szM M2) (oneM M2) ?_
  have S7 := Lib.hid (S6'.out.put M2)
  clear S6'
  have e0 : (bitsL M2).toArray.toList = bitsL M2 := rfl
  rw [e0]
  clear e0
  generalize World.setCells _ Q 0 (bitsL M2) = W7 at *
  obtain ⟨⟨c0, c1, c2, c3, c4⟩, ⟨d0, d1, d2, d3, d4, d5⟩, -, -, -, -⟩ := S7.out
  go_upto_region 16 with fail
  apply wp_region_lit
  refine wpList_load_mid rfl _ _ rfl Q 0 rfl (bitsL M2) (.array 32 3) S7.out.2.2.1.range Tryz.underlying121 rfl (wordSize M2) ?_
  go_wp2_with fail
  refine (LR.out _).mono ?_; rintro e w7 ⟨rfl, q7⟩
  have S7' := Lib.hid (S7.out.on q7); clear q7 c0 c1 c2 c3 c4 d0 d1 d2 d3 d4 d5 S7
  simp only []
  go_at_K
  rename_i hK
  refine hK _ _ ?_
  clear hK
  refine wpList_store_mid rfl _ _ _ rfl Q 0 (bitsL M).toArray rfl rfl (thM M S7'.out.2.2.1) (szM M) (oneM M) ?_
  have S8 := Lib.hid (S7'.out.put M)
  clear S7'
  have e0 : (bitsL M).toArray.toList = bitsL M := rfl
  rw [e0]
  clear e0
  generalize World.setCells _ Q 0 (bitsL M) = W8 at *
  go_upto_region 17 with fail
  apply wp_region_lit
  refine wpList_load_mid rfl _ _ rfl Q 0 rfl (bitsL M) (.array 32 3) S8.out.2.2.1.range Tryz.underlying121 rfl (wordSize M) ?_
  go_wp2_with fail
  refine (LN.out _).mono ?_; rintro e w8 ⟨rfl, q8⟩
  go_wp2_with fail
  exact bodyPost_ret (v := .tuple #[.int .u32 (M : Int), .int .i64 0]) (by simp [results, Tryz.results33, go_sem]) rfl ⟨rfl, bTrans S8.out.2.2.2.1 q8⟩
end Go.Proofs.YtegoddghfjfibaaGreatDoor.Is

