/- IsaX -/
import Derived.Test.YtegoddghfjfibaaGreatDoorZ37
import Derived.Deep.RegionHeld3
import Derived.Deep.RegionWith
namespace Go.Proofs.YtegoddghfjfibaaGreatDoor.Is
set_option linter.unusedVariables false
set_option linter.unusedSimpArgs false
open Go.Joins Go.ChangeShapes Go.WideShapes Go.ChangeAt Go.RowKit

def Rest (N M : Nat) (s : List UInt8) (k c f3 f7 sh n : Int) : Prop := ∀ w : World, Calls Tryz.prog 75 #[wordV N, operV s k c f3 f7 sh, .int .i64 n] w fun e w' => e = .returned (wordV M) ∧ Below w.heap.size w w'
def Lay (N M f m t : Nat) (n : Int) : Prop := ∀ w : World, Calls Tryz.prog 74 #[wordV N, .int .i64 n, .int .i64 (f : Int), .int .i64 (m : Int), .int .i64 (t : Int)] w fun e w' => e = .returned (wordV M) ∧ Below w.heap.size w w'
theorem lay_at (N f m t u : Nat) (n : Int) (hN : N / 2 ^ t % 2 ^ m = 0) (hf : f + m ≤ 64) (ht : t + m ≤ 32) (hu : (n / 2 ^ f % 2 ^ m).toNat = u) : Lay N (N + u * 2 ^ t) f m t n := by
  intro w
  rw [← hu]
  exact lay_any N f m t n w hN hf ht
theorem undrew {w w' : World} (h : Below w.drew.heap.size w.drew w') : Below w.heap.size w w' := ⟨h.os, h.tape, h.output, h.size, h.block⟩
set_option maxRecDepth 100000 in
theorem rest1 (s : List UInt8) (c f3 f7 sh n : Int) (N M1 : Nat) (l0 : Lay N M1 0 7 25 f7) : Rest N M1 s 1 c f3 f7 sh n := by
  intro w
  have hx0 := Box32.new w N 121
  have hsz := wordSize N
  have hsE := wordSize M1
  have hlE := bitsL_len M1
  have hoE := bitsL_one M1
  unfold Lay wordV at l0
  unfold wordV operV
  obtain ⟨A, hA⟩ : ∃ A, bitsL N = A := ⟨_, rfl⟩
  rw [hA] at hx0 hsz l0 ⊢
  obtain ⟨A1, hA1⟩ : ∃ A, bitsL M1 = A := ⟨_, rfl⟩
  rw [hA1] at l0 hsE hlE hoE ⊢
  have L0 := Lib.hid l0
  have W3 : Box32 (((w.alloc (Obj.cells A.toArray 121)).alloc (Obj.cells #[.string ⟨s.toArray⟩, .int .i64 1, .int .i64 c, .int .i64 f3, .int .i64 f7, .int .i64 sh] 57)).alloc (Obj.cells #[.int .i64 0, .int .i64 0, .int .i64 0, .int .i64 0, .int .i64 0, .int .i64 0, .int .i64 0, .int .i64 0, .int .i64 0, .int .i64 0, .int .i64 0, .int .i64 0, .int .i64 0, .int .i64 0, .int .i64 0, .int .i64 0, .int .i64 0, .int .i64 0, .int .i64 0, .int .i64 0, .int .i64 0, .int .i64 0, .int .i64 0, .int .i64 0, .int .i64 0, .int .i64 0, .int .i64 0, .int .i64 0, .int .i64 0, .int .i64 0, .int .i64 0, .int .i64 0] 121)) ((w.alloc (Obj.cells A.toArray 121)).alloc (Obj.cells #[.string ⟨s.toArray⟩, .int .i64 1, .int .i64 c, .int .i64 f3, .int .i64 f7, .int .i64 sh] 57)).heap.size 0 := (Box32.new ((w.alloc (Obj.cells A.toArray 121)).alloc (Obj.cells #[.string ⟨s.toArray⟩, .int .i64 1, .int .i64 c, .int .i64 f3, .int .i64 f7, .int .i64 sh] 57)) 0 121)
  rw [show ((w.alloc (Obj.cells A.toArray 121)).alloc (Obj.cells #[.string ⟨s.toArray⟩, .int .i64 1, .int .i64 c, .int .i64 f3, .int .i64 f7, .int .i64 sh] 57)).heap.size = w.heap.size + 1 + 1 by rw [size_alloc, size_alloc]] at W3
  have X3 := Lib.hid ((hx0.on (bAlloc (Below.refl _ _) (Obj.cells #[.string ⟨s.toArray⟩, .int .i64 1, .int .i64 c, .int .i64 f3, .int .i64 f7, .int .i64 sh] 57))).on (bAlloc (Below.refl _ _) (Obj.cells #[.int .i64 0, .int .i64 0, .int .i64 0, .int .i64 0, .int .i64 0, .int .i64 0, .int .i64 0, .int .i64 0, .int .i64 0, .int .i64 0, .int .i64 0, .int .i64 0, .int .i64 0, .int .i64 0, .int .i64 0, .int .i64 0, .int .i64 0, .int .i64 0, .int .i64 0, .int .i64 0, .int .i64 0, .int .i64 0, .int .i64 0, .int .i64 0, .int .i64 0, .int .i64 0, .int .i64 0, .int .i64 0, .int .i64 0, .int .i64 0, .int .i64 0, .int .i64 0] 121)))
  have R3 := Lib.hid W3
  have HA := Lib.hid hA
  have HS := Lib.hid hsz
  have SE := Lib.hid hsE
  have LE := Lib.hid hlE
  have OE := Lib.hid hoE
  have Q3 := Lib.hid (show Below w.heap.size w ((((w.alloc (Obj.cells A.toArray 121)).alloc (Obj.cells #[.string ⟨s.toArray⟩, .int .i64 1, .int .i64 c, .int .i64 f3, .int .i64 f7, .int .i64 sh] 57)).alloc (Obj.cells #[.int .i64 0, .int .i64 0, .int .i64 0, .int .i64 0, .int .i64 0, .int .i64 0, .int .i64 0, .int .i64 0, .int .i64 0, .int .i64 0, .int .i64 0, .int .i64 0, .int .i64 0, .int .i64 0, .int .i64 0, .int .i64 0, .int .i64 0, .int .i64 0, .int .i64 0, .int .i64 0, .int .i64 0, .int .i64 0, .int .i64 0, .int .i64 0, .int .i64 0, .int .i64 0, .int .i64 0, .int .i64 0, .int .i64 0, .int .i64 0, .int .i64 0, .int .i64 0] 121))) from bAlloc (bAlloc (bAlloc (Below.refl _ _) _) _) _)
  clear hx0 hsz hsE hlE hoE W3 hA hA1 l0
  go_enter Tryz.func75, Tryz.ntmps75
  go_upto_region 3 with fail
  apply wp_region_lit
  refine wpList_load_mid rfl _ _ rfl w.heap.size 0 rfl A (.array 32 3) (HA.out ▸ X3.out.range) Tryz.underlying121 rfl HS.out ?_
  go_wp2_with fail
  refine (L0.out _).mono ?_; rintro e w1 ⟨rfl, q1⟩
  have R10 := Lib.hid (R3.out.on q1); have Q10 := Lib.hid (bTrans Q3.out q1); clear q1
  simp only []
  go_at_K
  rename_i hK
  refine hK _ _ ?_
  clear hK
  refine wpList_store_mid rfl _ _ _ rfl (w.heap.size + 1 + 1) 0 A1.toArray rfl rfl ?_ ?_ (all_oneCell_toArray OE.out) ?_
  · have h : A1.toArray.size = 32 := by rw [List.size_toArray]; exact LE.out
    rw [h]; exact R10.out.there
  · have h : A1.toArray.size = A1.length := by rw [List.size_toArray]
    rw [h]; exact SE.out
  go_wp2_with fail
  refine bodyPost_ret (v := .agg A1.toArray) ?_ rfl ⟨rfl, ?_⟩
  · refine results_cell_mid Tryz.results75 _ _ (w.heap.size + 1 + 1) A1 (.array 32 3) rfl ?_ Tryz.underlying121 rfl SE.out
    exact World.rangeAt_setCells_same _ _ _ _ (by rw [LE.out]; exact R10.out.there)
  · exact below_setCells _ (by omega) _ _ _ Q10.out
set_option maxRecDepth 100000 in
theorem rest2_0 (s : List UInt8) (c f3 f7 n : Int) (N M1 : Nat) (l0 : Lay N M1 0 12 20 n) : Rest N M1 s 2 c f3 f7 0 n := by
  intro w
  have hx0 := Box32.new w N 121
  have hsz := wordSize N
  have hsE := wordSize M1
  have hlE := bitsL_len M1
  have hoE := bitsL_one M1
  unfold Lay wordV at l0
  unfold wordV operV
  obtain ⟨A, hA⟩ : ∃ A, bitsL N = A := ⟨_, rfl⟩
  rw [hA] at hx0 hsz l0 ⊢
  obtain ⟨A1, hA1⟩ : ∃ A, bitsL M1 = A := ⟨_, rfl⟩
  rw [hA1] at l0 hsE hlE hoE ⊢
  have L0 := Lib.hid l0
  have W3 : Box32 (((w.alloc (Obj.cells A.toArray 121)).alloc (Obj.cells #[.string ⟨s.toArray⟩, .int .i64 2, .int .i64 c, .int .i64 f3, .int .i64 f7, .int .i64 0] 57)).alloc (Obj.cells #[.int .i64 0, .int .i64 0, .int .i64 0, .int .i64 0, .int .i64 0, .int .i64 0, .int .i64 0, .int .i64 0, .int .i64 0, .int .i64 0, .int .i64 0, .int .i64 0, .int .i64 0, .int .i64 0, .int .i64 0, .int .i64 0, .int .i64 0, .int .i64 0, .int .i64 0, .int .i64 0, .int .i64 0, .int .i64 0, .int .i64 0, .int .i64 0, .int .i64 0, .int .i64 0, .int .i64 0, .int .i64 0, .int .i64 0, .int .i64 0, .int .i64 0, .int .i64 0] 121)) ((w.alloc (Obj.cells A.toArray 121)).alloc (Obj.cells #[.string ⟨s.toArray⟩, .int .i64 2, .int .i64 c, .int .i64 f3, .int .i64 f7, .int .i64 0] 57)).heap.size 0 := (Box32.new ((w.alloc (Obj.cells A.toArray 121)).alloc (Obj.cells #[.string ⟨s.toArray⟩, .int .i64 2, .int .i64 c, .int .i64 f3, .int .i64 f7, .int .i64 0] 57)) 0 121)
  rw [show ((w.alloc (Obj.cells A.toArray 121)).alloc (Obj.cells #[.string ⟨s.toArray⟩, .int .i64 2, .int .i64 c, .int .i64 f3, .int .i64 f7, .int .i64 0] 57)).heap.size = w.heap.size + 1 + 1 by rw [size_alloc, size_alloc]] at W3
  have X3 := Lib.hid ((hx0.on (bAlloc (Below.refl _ _) (Obj.cells #[.string ⟨s.toArray⟩, .int .i64 2, .int .i64 c, .int .i64 f3, .int .i64 f7, .int .i64 0] 57))).on (bAlloc (Below.refl _ _) (Obj.cells #[.int .i64 0, .int .i64 0, .int .i64 0, .int .i64 0, .int .i64 0, .int .i64 0, .int .i64 0, .int .i64 0, .int .i64 0, .int .i64 0, .int .i64 0, .int .i64 0, .int .i64 0, .int .i64 0, .int .i64 0, .int .i64 0, .int .i64 0, .int .i64 0, .int .i64 0, .int .i64 0, .int .i64 0, .int .i64 0, .int .i64 0, .int .i64 0, .int .i64 0, .int .i64 0, .int .i64 0, .int .i64 0, .int .i64 0, .int .i64 0, .int .i64 0, .int .i64 0] 121)))
  have R3 := Lib.hid W3
  have HA := Lib.hid hA
  have HS := Lib.hid hsz
  have SE := Lib.hid hsE
  have LE := Lib.hid hlE
  have OE := Lib.hid hoE
  have Q3 := Lib.hid (show Below w.heap.size w ((((w.alloc (Obj.cells A.toArray 121)).alloc (Obj.cells #[.string ⟨s.toArray⟩, .int .i64 2, .int .i64 c, .int .i64 f3, .int .i64 f7, .int .i64 0] 57)).alloc (Obj.cells #[.int .i64 0, .int .i64 0, .int .i64 0, .int .i64 0, .int .i64 0, .int .i64 0, .int .i64 0, .int .i64 0, .int .i64 0, .int .i64 0, .int .i64 0, .int .i64 0, .int .i64 0, .int .i64 0, .int .i64 0, .int .i64 0, .int .i64 0, .int .i64 0, .int .i64 0, .int .i64 0, .int .i64 0, .int .i64 0, .int .i64 0, .int .i64 0, .int .i64 0, .int .i64 0, .int .i64 0, .int .i64 0, .int .i64 0, .int .i64 0, .int .i64 0, .int .i64 0] 121))) from bAlloc (bAlloc (bAlloc (Below.refl _ _) _) _) _)
  clear hx0 hsz hsE hlE hoE W3 hA hA1 l0
  go_enter Tryz.func75, Tryz.ntmps75
  go_upto_region 10 with fail
  apply wp_region_lit
  refine wpList_load_mid rfl _ _ rfl w.heap.size 0 rfl A (.array 32 3) (HA.out ▸ X3.out.range) Tryz.underlying121 rfl HS.out ?_
  go_wp2_with fail
  refine (L0.out _).mono ?_; rintro e w1 ⟨rfl, q1⟩
  have R10 := Lib.hid (R3.out.on q1); have Q10 := Lib.hid (bTrans Q3.out q1); clear q1
  simp only []
  go_at_K
  rename_i hK
  refine hK _ _ ?_
  clear hK
  refine wpList_store_mid rfl _ _ _ rfl (w.heap.size + 1 + 1) 0 A1.toArray rfl rfl ?_ ?_ (all_oneCell_toArray OE.out) ?_
  · have h : A1.toArray.size = 32 := by rw [List.size_toArray]; exact LE.out
    rw [h]; exact R10.out.there
  · have h : A1.toArray.size = A1.length := by rw [List.size_toArray]
    rw [h]; exact SE.out
  go_wp2_with fail
  refine bodyPost_ret (v := .agg A1.toArray) ?_ rfl ⟨rfl, ?_⟩
  · refine results_cell_mid Tryz.results75 _ _ (w.heap.size + 1 + 1) A1 (.array 32 3) rfl ?_ Tryz.underlying121 rfl SE.out
    exact World.rangeAt_setCells_same _ _ _ _ (by rw [LE.out]; exact R10.out.there)
  · exact below_setCells _ (by omega) _ _ _ Q10.out
set_option maxRecDepth 100000 in
theorem rest3_0 (s : List UInt8) (c f3 f7 n : Int) (N M1 : Nat) (l0 : Lay N M1 0 12 20 n) : Rest N M1 s 3 c f3 f7 0 n := by
  intro w
  have hx0 := Box32.new w N 121
  have hsz := wordSize N
  have hsE := wordSize M1
  have hlE := bitsL_len M1
  have hoE := bitsL_one M1
  unfold Lay wordV at l0
  unfold wordV operV
  obtain ⟨A, hA⟩ : ∃ A, bitsL N = A := ⟨_, rfl⟩
  rw [hA] at hx0 hsz l0 ⊢
  obtain ⟨A1, hA1⟩ : ∃ A, bitsL M1 = A := ⟨_, rfl⟩
  rw [hA1] at l0 hsE hlE hoE ⊢
  have L0 := Lib.hid l0
  have W3 : Box32 (((w.alloc (Obj.cells A.toArray 121)).alloc (Obj.cells #[.string ⟨s.toArray⟩, .int .i64 3, .int .i64 c, .int .i64 f3, .int .i64 f7, .int .i64 0] 57)).alloc (Obj.cells #[.int .i64 0, .int .i64 0, .int .i64 0, .int .i64 0, .int .i64 0, .int .i64 0, .int .i64 0, .int .i64 0, .int .i64 0, .int .i64 0, .int .i64 0, .int .i64 0, .int .i64 0, .int .i64 0, .int .i64 0, .int .i64 0, .int .i64 0, .int .i64 0, .int .i64 0, .int .i64 0, .int .i64 0, .int .i64 0, .int .i64 0, .int .i64 0, .int .i64 0, .int .i64 0, .int .i64 0, .int .i64 0, .int .i64 0, .int .i64 0, .int .i64 0, .int .i64 0] 121)) ((w.alloc (Obj.cells A.toArray 121)).alloc (Obj.cells #[.string ⟨s.toArray⟩, .int .i64 3, .int .i64 c, .int .i64 f3, .int .i64 f7, .int .i64 0] 57)).heap.size 0 := (Box32.new ((w.alloc (Obj.cells A.toArray 121)).alloc (Obj.cells #[.string ⟨s.toArray⟩, .int .i64 3, .int .i64 c, .int .i64 f3, .int .i64 f7, .int .i64 0] 57)) 0 121)
  rw [show ((w.alloc (Obj.cells A.toArray 121)).alloc (Obj.cells #[.string ⟨s.toArray⟩, .int .i64 3, .int .i64 c, .int .i64 f3, .int .i64 f7, .int .i64 0] 57)).heap.size = w.heap.size + 1 + 1 by rw [size_alloc, size_alloc]] at W3
  have X3 := Lib.hid ((hx0.on (bAlloc (Below.refl _ _) (Obj.cells #[.string ⟨s.toArray⟩, .int .i64 3, .int .i64 c, .int .i64 f3, .int .i64 f7, .int .i64 0] 57))).on (bAlloc (Below.refl _ _) (Obj.cells #[.int .i64 0, .int .i64 0, .int .i64 0, .int .i64 0, .int .i64 0, .int .i64 0, .int .i64 0, .int .i64 0, .int .i64 0, .int .i64 0, .int .i64 0, .int .i64 0, .int .i64 0, .int .i64 0, .int .i64 0, .int .i64 0, .int .i64 0, .int .i64 0, .int .i64 0, .int .i64 0, .int .i64 0, .int .i64 0, .int .i64 0, .int .i64 0, .int .i64 0, .int .i64 0, .int .i64 0, .int .i64 0, .int .i64 0, .int .i64 0, .int .i64 0, .int .i64 0] 121)))
  have R3 := Lib.hid W3
  have HA := Lib.hid hA
  have HS := Lib.hid hsz
  have SE := Lib.hid hsE
  have LE := Lib.hid hlE
  have OE := Lib.hid hoE
  have Q3 := Lib.hid (show Below w.heap.size w ((((w.alloc (Obj.cells A.toArray 121)).alloc (Obj.cells #[.string ⟨s.toArray⟩, .int .i64 3, .int .i64 c, .int .i64 f3, .int .i64 f7, .int .i64 0] 57)).alloc (Obj.cells #[.int .i64 0, .int .i64 0, .int .i64 0, .int .i64 0, .int .i64 0, .int .i64 0, .int .i64 0, .int .i64 0, .int .i64 0, .int .i64 0, .int .i64 0, .int .i64 0, .int .i64 0, .int .i64 0, .int .i64 0, .int .i64 0, .int .i64 0, .int .i64 0, .int .i64 0, .int .i64 0, .int .i64 0, .int .i64 0, .int .i64 0, .int .i64 0, .int .i64 0, .int .i64 0, .int .i64 0, .int .i64 0, .int .i64 0, .int .i64 0, .int .i64 0, .int .i64 0] 121))) from bAlloc (bAlloc (bAlloc (Below.refl _ _) _) _) _)
  clear hx0 hsz hsE hlE hoE W3 hA hA1 l0
  go_enter Tryz.func75, Tryz.ntmps75
  go_upto_region 10 with fail
  apply wp_region_lit
  refine wpList_load_mid rfl _ _ rfl w.heap.size 0 rfl A (.array 32 3) (HA.out ▸ X3.out.range) Tryz.underlying121 rfl HS.out ?_
  go_wp2_with fail
  refine (L0.out _).mono ?_; rintro e w1 ⟨rfl, q1⟩
  have R10 := Lib.hid (R3.out.on q1); have Q10 := Lib.hid (bTrans Q3.out q1); clear q1
  simp only []
  go_at_K
  rename_i hK
  refine hK _ _ ?_
  clear hK
  refine wpList_store_mid rfl _ _ _ rfl (w.heap.size + 1 + 1) 0 A1.toArray rfl rfl ?_ ?_ (all_oneCell_toArray OE.out) ?_
  · have h : A1.toArray.size = 32 := by rw [List.size_toArray]; exact LE.out
    rw [h]; exact R10.out.there
  · have h : A1.toArray.size = A1.length := by rw [List.size_toArray]
    rw [h]; exact SE.out
  go_wp2_with fail
  refine bodyPost_ret (v := .agg A1.toArray) ?_ rfl ⟨rfl, ?_⟩
  · refine results_cell_mid Tryz.results75 _ _ (w.heap.size + 1 + 1) A1 (.array 32 3) rfl ?_ Tryz.underlying121 rfl SE.out
    exact World.rangeAt_setCells_same _ _ _ _ (by rw [LE.out]; exact R10.out.there)
  · exact below_setCells _ (by omega) _ _ _ Q10.out
set_option maxRecDepth 100000 in
theorem rest2_6 (s : List UInt8) (c f3 f7 n : Int) (N M1 M2 : Nat) (l0 : Lay N M1 0 6 20 n) (l1 : Lay M1 M2 0 6 26 f7) : Rest N M2 s 2 c f3 f7 6 n := by
  intro w
  have hx0 := Box32.new w N 121
  have hsz := wordSize N
  have hsE := wordSize M2
  have hlE := bitsL_len M2
  have hoE := bitsL_one M2
  unfold Lay wordV at l0 l1
  unfold wordV operV
  obtain ⟨A, hA⟩ : ∃ A, bitsL N = A := ⟨_, rfl⟩
  rw [hA] at hx0 hsz l0 ⊢
  obtain ⟨A1, hA1⟩ : ∃ A, bitsL M1 = A := ⟨_, rfl⟩
  rw [hA1] at l0 l1
  obtain ⟨A2, hA2⟩ : ∃ A, bitsL M2 = A := ⟨_, rfl⟩
  rw [hA2] at l1 hsE hlE hoE ⊢
  have L0 := Lib.hid l0
  have L1 := Lib.hid l1
  have W3 : Box32 (((w.alloc (Obj.cells A.toArray 121)).alloc (Obj.cells #[.string ⟨s.toArray⟩, .int .i64 2, .int .i64 c, .int .i64 f3, .int .i64 f7, .int .i64 6] 57)).alloc (Obj.cells #[.int .i64 0, .int .i64 0, .int .i64 0, .int .i64 0, .int .i64 0, .int .i64 0, .int .i64 0, .int .i64 0, .int .i64 0, .int .i64 0, .int .i64 0, .int .i64 0, .int .i64 0, .int .i64 0, .int .i64 0, .int .i64 0, .int .i64 0, .int .i64 0, .int .i64 0, .int .i64 0, .int .i64 0, .int .i64 0, .int .i64 0, .int .i64 0, .int .i64 0, .int .i64 0, .int .i64 0, .int .i64 0, .int .i64 0, .int .i64 0, .int .i64 0, .int .i64 0] 121)) ((w.alloc (Obj.cells A.toArray 121)).alloc (Obj.cells #[.string ⟨s.toArray⟩, .int .i64 2, .int .i64 c, .int .i64 f3, .int .i64 f7, .int .i64 6] 57)).heap.size 0 := (Box32.new ((w.alloc (Obj.cells A.toArray 121)).alloc (Obj.cells #[.string ⟨s.toArray⟩, .int .i64 2, .int .i64 c, .int .i64 f3, .int .i64 f7, .int .i64 6] 57)) 0 121)
  rw [show ((w.alloc (Obj.cells A.toArray 121)).alloc (Obj.cells #[.string ⟨s.toArray⟩, .int .i64 2, .int .i64 c, .int .i64 f3, .int .i64 f7, .int .i64 6] 57)).heap.size = w.heap.size + 1 + 1 by rw [size_alloc, size_alloc]] at W3
  have X3 := Lib.hid ((hx0.on (bAlloc (Below.refl _ _) (Obj.cells #[.string ⟨s.toArray⟩, .int .i64 2, .int .i64 c, .int .i64 f3, .int .i64 f7, .int .i64 6] 57))).on (bAlloc (Below.refl _ _) (Obj.cells #[.int .i64 0, .int .i64 0, .int .i64 0, .int .i64 0, .int .i64 0, .int .i64 0, .int .i64 0, .int .i64 0, .int .i64 0, .int .i64 0, .int .i64 0, .int .i64 0, .int .i64 0, .int .i64 0, .int .i64 0, .int .i64 0, .int .i64 0, .int .i64 0, .int .i64 0, .int .i64 0, .int .i64 0, .int .i64 0, .int .i64 0, .int .i64 0, .int .i64 0, .int .i64 0, .int .i64 0, .int .i64 0, .int .i64 0, .int .i64 0, .int .i64 0, .int .i64 0] 121)))
  have R3 := Lib.hid W3
  have HA := Lib.hid hA
  have HS := Lib.hid hsz
  have SE := Lib.hid hsE
  have LE := Lib.hid hlE
  have OE := Lib.hid hoE
  have Q3 := Lib.hid (show Below w.heap.size w ((((w.alloc (Obj.cells A.toArray 121)).alloc (Obj.cells #[.string ⟨s.toArray⟩, .int .i64 2, .int .i64 c, .int .i64 f3, .int .i64 f7, .int .i64 6] 57)).alloc (Obj.cells #[.int .i64 0, .int .i64 0, .int .i64 0, .int .i64 0, .int .i64 0, .int .i64 0, .int .i64 0, .int .i64 0, .int .i64 0, .int .i64 0, .int .i64 0, .int .i64 0, .int .i64 0, .int .i64 0, .int .i64 0, .int .i64 0, .int .i64 0, .int .i64 0, .int .i64 0, .int .i64 0, .int .i64 0, .int .i64 0, .int .i64 0, .int .i64 0, .int .i64 0, .int .i64 0, .int .i64 0, .int .i64 0, .int .i64 0, .int .i64 0, .int .i64 0, .int .i64 0] 121))) from bAlloc (bAlloc (bAlloc (Below.refl _ _) _) _) _)
  clear hx0 hsz hsE hlE hoE W3 hA hA1 l0 hA2 l1
  go_enter Tryz.func75, Tryz.ntmps75
  go_upto_region 7 with fail
  have KS := Lib.hid (show ∀ W', Below (((w.alloc (Obj.cells A.toArray 121)).alloc (Obj.cells #[.string ⟨s.toArray⟩, .int .i64 2, .int .i64 c, .int .i64 f3, .int .i64 f7, .int .i64 6] 57)).alloc (Obj.cells #[.int .i64 0, .int .i64 0, .int .i64 0, .int .i64 0, .int .i64 0, .int .i64 0, .int .i64 0, .int .i64 0, .int .i64 0, .int .i64 0, .int .i64 0, .int .i64 0, .int .i64 0, .int .i64 0, .int .i64 0, .int .i64 0, .int .i64 0, .int .i64 0, .int .i64 0, .int .i64 0, .int .i64 0, .int .i64 0, .int .i64 0, .int .i64 0, .int .i64 0, .int .i64 0, .int .i64 0, .int .i64 0, .int .i64 0, .int .i64 0, .int .i64 0, .int .i64 0] 121)).heap.size (((w.alloc (Obj.cells A.toArray 121)).alloc (Obj.cells #[.string ⟨s.toArray⟩, .int .i64 2, .int .i64 c, .int .i64 f3, .int .i64 f7, .int .i64 6] 57)).alloc (Obj.cells #[.int .i64 0, .int .i64 0, .int .i64 0, .int .i64 0, .int .i64 0, .int .i64 0, .int .i64 0, .int .i64 0, .int .i64 0, .int .i64 0, .int .i64 0, .int .i64 0, .int .i64 0, .int .i64 0, .int .i64 0, .int .i64 0, .int .i64 0, .int .i64 0, .int .i64 0, .int .i64 0, .int .i64 0, .int .i64 0, .int .i64 0, .int .i64 0, .int .i64 0, .int .i64 0, .int .i64 0, .int .i64 0, .int .i64 0, .int .i64 0, .int .i64 0, .int .i64 0] 121)) W' → (fun W : World => W.rangeAt w.heap.size 0 A ∧ W.cell? ⟨w.heap.size + 1, 4, none⟩ = some (.int .i64 f7) ∧ W.there (w.heap.size + 1 + 1) 0 32) W' from fun W' hb => ⟨HA.out ▸ (X3.out.on hb).range, (hb.cell (p := ⟨w.heap.size + 1, 4, none⟩) (by rw [size_alloc, size_alloc, size_alloc]; simp only []; omega)).trans (((bAlloc (Below.refl _ _) (Obj.cells #[.int .i64 0, .int .i64 0, .int .i64 0, .int .i64 0, .int .i64 0, .int .i64 0, .int .i64 0, .int .i64 0, .int .i64 0, .int .i64 0, .int .i64 0, .int .i64 0, .int .i64 0, .int .i64 0, .int .i64 0, .int .i64 0, .int .i64 0, .int .i64 0, .int .i64 0, .int .i64 0, .int .i64 0, .int .i64 0, .int .i64 0, .int .i64 0, .int .i64 0, .int .i64 0, .int .i64 0, .int .i64 0, .int .i64 0, .int .i64 0, .int .i64 0, .int .i64 0] 121)).cell (w := (w.alloc (Obj.cells A.toArray 121)).alloc (Obj.cells #[.string ⟨s.toArray⟩, .int .i64 2, .int .i64 c, .int .i64 f3, .int .i64 f7, .int .i64 6] 57)) (p := ⟨w.heap.size + 1, 4, none⟩) (by rw [size_alloc, size_alloc]; simp only []; omega)).trans (by have b := boxed (w := w.alloc (Obj.cells A.toArray 121)) (cs := #[.string ⟨s.toArray⟩, .int .i64 2, .int .i64 c, .int .i64 f3, .int .i64 f7, .int .i64 6]) (t := 57) (Below.refl _ _) 4; rw [size_alloc] at b; exact b)), (R3.out.on hb).there⟩)
  have KT := Lib.hid (show ∀ W', (fun W : World => W.rangeAt w.heap.size 0 A ∧ W.cell? ⟨w.heap.size + 1, 4, none⟩ = some (.int .i64 f7) ∧ W.there (w.heap.size + 1 + 1) 0 32) W' → (fun W : World => W.rangeAt w.heap.size 0 A ∧ W.cell? ⟨w.heap.size + 1, 4, none⟩ = some (.int .i64 f7) ∧ W.there (w.heap.size + 1 + 1) 0 32) (W'.setCells (w.heap.size + 1 + 1) 0 A2) from fun W' h => ⟨World.rangeAt_setCells_apart h.1 _ _ _ (.inl (by omega)), (World.cell?_setCells_out _ _ _ _ _ (fun hb _ => absurd hb (by simp))).trans h.2.1, World.there_setCells h.2.2 _ _ _⟩)
  have hu := Tryz.underlying121
  have hsA := HS.out
  have hsE := SE.out
  have hlE := LE.out
  have hoE := OE.out
  first
    | (go_region_held3 (fun W : World => W.rangeAt w.heap.size 0 A ∧ W.cell? ⟨w.heap.size + 1, 4, none⟩ = some (.int .i64 f7) ∧ W.there (w.heap.size + 1 + 1) 0 32)
    (first
      | (refine KS.out _ ?_; first | (with_reducible exact HB2.out) | (with_reducible exact HB1.out) | (with_reducible exact Below.refl _ _) | (with_reducible exact Below.drew (Below.refl _ _)))
      | (refine KT.out _ ?_; assumption))
    (first
      | (go_at_call_of 74 (Value.agg A.toArray); refine (L0.out _).mono ?_; rintro e w1 ⟨rfl, hb⟩; have HB1 := Lib.hid (undrew hb); clear hb)
      | (go_at_call_of 74 (Value.agg A1.toArray); refine (L1.out _).mono ?_; rintro e w2 ⟨rfl, hb⟩; have HB2 := Lib.hid (bTrans HB1.out hb); clear hb)))
    | fail "no"
  all_goals (go_wp2_with fail)
  all_goals (refine bodyPost_ret (v := .agg A2.toArray) ?_ rfl ⟨rfl, ?_⟩)
  all_goals first
    | exact below_setCells _ (by omega) _ _ _ (bTrans Q3.out HB2.out)
    | (refine results_cell_mid Tryz.results75 _ _ (w.heap.size + 1 + 1) A2 (.array 32 3) rfl ?_ Tryz.underlying121 rfl SE.out; exact World.rangeAt_setCells_same _ _ _ _ (by rw [LE.out]; exact (R3.out.on HB2.out).there))
set_option maxRecDepth 100000 in
theorem rest2_5 (s : List UInt8) (c f3 f7 n : Int) (N M1 M2 : Nat) (l0 : Lay N M1 0 5 20 n) (l1 : Lay M1 M2 0 7 25 f7) : Rest N M2 s 2 c f3 f7 5 n := by
  intro w
  have hx0 := Box32.new w N 121
  have hsz := wordSize N
  have hsE := wordSize M2
  have hlE := bitsL_len M2
  have hoE := bitsL_one M2
  unfold Lay wordV at l0 l1
  unfold wordV operV
  obtain ⟨A, hA⟩ : ∃ A, bitsL N = A := ⟨_, rfl⟩
  rw [hA] at hx0 hsz l0 ⊢
  obtain ⟨A1, hA1⟩ : ∃ A, bitsL M1 = A := ⟨_, rfl⟩
  rw [hA1] at l0 l1
  obtain ⟨A2, hA2⟩ : ∃ A, bitsL M2 = A := ⟨_, rfl⟩
  rw [hA2] at l1 hsE hlE hoE ⊢
  have L0 := Lib.hid l0
  have L1 := Lib.hid l1
  have W3 : Box32 (((w.alloc (Obj.cells A.toArray 121)).alloc (Obj.cells #[.string ⟨s.toArray⟩, .int .i64 2, .int .i64 c, .int .i64 f3, .int .i64 f7, .int .i64 5] 57)).alloc (Obj.cells #[.int .i64 0, .int .i64 0, .int .i64 0, .int .i64 0, .int .i64 0, .int .i64 0, .int .i64 0, .int .i64 0, .int .i64 0, .int .i64 0, .int .i64 0, .int .i64 0, .int .i64 0, .int .i64 0, .int .i64 0, .int .i64 0, .int .i64 0, .int .i64 0, .int .i64 0, .int .i64 0, .int .i64 0, .int .i64 0, .int .i64 0, .int .i64 0, .int .i64 0, .int .i64 0, .int .i64 0, .int .i64 0, .int .i64 0, .int .i64 0, .int .i64 0, .int .i64 0] 121)) ((w.alloc (Obj.cells A.toArray 121)).alloc (Obj.cells #[.string ⟨s.toArray⟩, .int .i64 2, .int .i64 c, .int .i64 f3, .int .i64 f7, .int .i64 5] 57)).heap.size 0 := (Box32.new ((w.alloc (Obj.cells A.toArray 121)).alloc (Obj.cells #[.string ⟨s.toArray⟩, .int .i64 2, .int .i64 c, .int .i64 f3, .int .i64 f7, .int .i64 5] 57)) 0 121)
  rw [show ((w.alloc (Obj.cells A.toArray 121)).alloc (Obj.cells #[.string ⟨s.toArray⟩, .int .i64 2, .int .i64 c, .int .i64 f3, .int .i64 f7, .int .i64 5] 57)).heap.size = w.heap.size + 1 + 1 by rw [size_alloc, size_alloc]] at W3
  have X3 := Lib.hid ((hx0.on (bAlloc (Below.refl _ _) (Obj.cells #[.string ⟨s.toArray⟩, .int .i64 2, .int .i64 c, .int .i64 f3, .int .i64 f7, .int .i64 5] 57))).on (bAlloc (Below.refl _ _) (Obj.cells #[.int .i64 0, .int .i64 0, .int .i64 0, .int .i64 0, .int .i64 0, .int .i64 0, .int .i64 0, .int .i64 0, .int .i64 0, .int .i64 0, .int .i64 0, .int .i64 0, .int .i64 0, .int .i64 0, .int .i64 0, .int .i64 0, .int .i64 0, .int .i64 0, .int .i64 0, .int .i64 0, .int .i64 0, .int .i64 0, .int .i64 0, .int .i64 0, .int .i64 0, .int .i64 0, .int .i64 0, .int .i64 0, .int .i64 0, .int .i64 0, .int .i64 0, .int .i64 0] 121)))
  have R3 := Lib.hid W3
  have HA := Lib.hid hA
  have HS := Lib.hid hsz
  have SE := Lib.hid hsE
  have LE := Lib.hid hlE
  have OE := Lib.hid hoE
  have Q3 := Lib.hid (show Below w.heap.size w ((((w.alloc (Obj.cells A.toArray 121)).alloc (Obj.cells #[.string ⟨s.toArray⟩, .int .i64 2, .int .i64 c, .int .i64 f3, .int .i64 f7, .int .i64 5] 57)).alloc (Obj.cells #[.int .i64 0, .int .i64 0, .int .i64 0, .int .i64 0, .int .i64 0, .int .i64 0, .int .i64 0, .int .i64 0, .int .i64 0, .int .i64 0, .int .i64 0, .int .i64 0, .int .i64 0, .int .i64 0, .int .i64 0, .int .i64 0, .int .i64 0, .int .i64 0, .int .i64 0, .int .i64 0, .int .i64 0, .int .i64 0, .int .i64 0, .int .i64 0, .int .i64 0, .int .i64 0, .int .i64 0, .int .i64 0, .int .i64 0, .int .i64 0, .int .i64 0, .int .i64 0] 121))) from bAlloc (bAlloc (bAlloc (Below.refl _ _) _) _) _)
  clear hx0 hsz hsE hlE hoE W3 hA hA1 l0 hA2 l1
  go_enter Tryz.func75, Tryz.ntmps75
  go_upto_region 9 with fail
  have KS := Lib.hid (show ∀ W', Below (((w.alloc (Obj.cells A.toArray 121)).alloc (Obj.cells #[.string ⟨s.toArray⟩, .int .i64 2, .int .i64 c, .int .i64 f3, .int .i64 f7, .int .i64 5] 57)).alloc (Obj.cells #[.int .i64 0, .int .i64 0, .int .i64 0, .int .i64 0, .int .i64 0, .int .i64 0, .int .i64 0, .int .i64 0, .int .i64 0, .int .i64 0, .int .i64 0, .int .i64 0, .int .i64 0, .int .i64 0, .int .i64 0, .int .i64 0, .int .i64 0, .int .i64 0, .int .i64 0, .int .i64 0, .int .i64 0, .int .i64 0, .int .i64 0, .int .i64 0, .int .i64 0, .int .i64 0, .int .i64 0, .int .i64 0, .int .i64 0, .int .i64 0, .int .i64 0, .int .i64 0] 121)).heap.size (((w.alloc (Obj.cells A.toArray 121)).alloc (Obj.cells #[.string ⟨s.toArray⟩, .int .i64 2, .int .i64 c, .int .i64 f3, .int .i64 f7, .int .i64 5] 57)).alloc (Obj.cells #[.int .i64 0, .int .i64 0, .int .i64 0, .int .i64 0, .int .i64 0, .int .i64 0, .int .i64 0, .int .i64 0, .int .i64 0, .int .i64 0, .int .i64 0, .int .i64 0, .int .i64 0, .int .i64 0, .int .i64 0, .int .i64 0, .int .i64 0, .int .i64 0, .int .i64 0, .int .i64 0, .int .i64 0, .int .i64 0, .int .i64 0, .int .i64 0, .int .i64 0, .int .i64 0, .int .i64 0, .int .i64 0, .int .i64 0, .int .i64 0, .int .i64 0, .int .i64 0] 121)) W' → (fun W : World => W.rangeAt w.heap.size 0 A ∧ W.cell? ⟨w.heap.size + 1, 4, none⟩ = some (.int .i64 f7) ∧ W.there (w.heap.size + 1 + 1) 0 32) W' from fun W' hb => ⟨HA.out ▸ (X3.out.on hb).range, (hb.cell (p := ⟨w.heap.size + 1, 4, none⟩) (by rw [size_alloc, size_alloc, size_alloc]; simp only []; omega)).trans (((bAlloc (Below.refl _ _) (Obj.cells #[.int .i64 0, .int .i64 0, .int .i64 0, .int .i64 0, .int .i64 0, .int .i64 0, .int .i64 0, .int .i64 0, .int .i64 0, .int .i64 0, .int .i64 0, .int .i64 0, .int .i64 0, .int .i64 0, .int .i64 0, .int .i64 0, .int .i64 0, .int .i64 0, .int .i64 0, .int .i64 0, .int .i64 0, .int .i64 0, .int .i64 0, .int .i64 0, .int .i64 0, .int .i64 0, .int .i64 0, .int .i64 0, .int .i64 0, .int .i64 0, .int .i64 0, .int .i64 0] 121)).cell (w := (w.alloc (Obj.cells A.toArray 121)).alloc (Obj.cells #[.string ⟨s.toArray⟩, .int .i64 2, .int .i64 c, .int .i64 f3, .int .i64 f7, .int .i64 5] 57)) (p := ⟨w.heap.size + 1, 4, none⟩) (by rw [size_alloc, size_alloc]; simp only []; omega)).trans (by have b := boxed (w := w.alloc (Obj.cells A.toArray 121)) (cs := #[.string ⟨s.toArray⟩, .int .i64 2, .int .i64 c, .int .i64 f3, .int .i64 f7, .int .i64 5]) (t := 57) (Below.refl _ _) 4; rw [size_alloc] at b; exact b)), (R3.out.on hb).there⟩)
  have KT := Lib.hid (show ∀ W', (fun W : World => W.rangeAt w.heap.size 0 A ∧ W.cell? ⟨w.heap.size + 1, 4, none⟩ = some (.int .i64 f7) ∧ W.there (w.heap.size + 1 + 1) 0 32) W' → (fun W : World => W.rangeAt w.heap.size 0 A ∧ W.cell? ⟨w.heap.size + 1, 4, none⟩ = some (.int .i64 f7) ∧ W.there (w.heap.size + 1 + 1) 0 32) (W'.setCells (w.heap.size + 1 + 1) 0 A2) from fun W' h => ⟨World.rangeAt_setCells_apart h.1 _ _ _ (.inl (by omega)), (World.cell?_setCells_out _ _ _ _ _ (fun hb _ => absurd hb (by simp))).trans h.2.1, World.there_setCells h.2.2 _ _ _⟩)
  have hu := Tryz.underlying121
  have hsA := HS.out
  have hsE := SE.out
  have hlE := LE.out
  have hoE := OE.out
  first
    | (go_region_held3 (fun W : World => W.rangeAt w.heap.size 0 A ∧ W.cell? ⟨w.heap.size + 1, 4, none⟩ = some (.int .i64 f7) ∧ W.there (w.heap.size + 1 + 1) 0 32)
    (first
      | (refine KS.out _ ?_; first | (with_reducible exact HB2.out) | (with_reducible exact HB1.out) | (with_reducible exact Below.refl _ _) | (with_reducible exact Below.drew (Below.refl _ _)))
      | (refine KT.out _ ?_; assumption))
    (first
      | (go_at_call_of 74 (Value.agg A.toArray); refine (L0.out _).mono ?_; rintro e w1 ⟨rfl, hb⟩; have HB1 := Lib.hid (undrew hb); clear hb)
      | (go_at_call_of 74 (Value.agg A1.toArray); refine (L1.out _).mono ?_; rintro e w2 ⟨rfl, hb⟩; have HB2 := Lib.hid (bTrans HB1.out hb); clear hb)))
    | fail "no"
  all_goals (go_wp2_with fail)
  all_goals (refine bodyPost_ret (v := .agg A2.toArray) ?_ rfl ⟨rfl, ?_⟩)
  all_goals first
    | exact below_setCells _ (by omega) _ _ _ (bTrans Q3.out HB2.out)
    | (refine results_cell_mid Tryz.results75 _ _ (w.heap.size + 1 + 1) A2 (.array 32 3) rfl ?_ Tryz.underlying121 rfl SE.out; exact World.rangeAt_setCells_same _ _ _ _ (by rw [LE.out]; exact (R3.out.on HB2.out).there))
set_option maxRecDepth 100000 in
theorem rest4 (s : List UInt8) (c f3 f7 sh n : Int) (N M1 M2 : Nat) (l0 : Lay N M1 0 5 7 n) (l1 : Lay M1 M2 5 7 25 n) : Rest N M2 s 4 c f3 f7 sh n := by
  intro w
  have hx0 := Box32.new w N 121
  have hsz := wordSize N
  have hsE := wordSize M2
  have hlE := bitsL_len M2
  have hoE := bitsL_one M2
  unfold Lay wordV at l0 l1
  unfold wordV operV
  obtain ⟨A, hA⟩ : ∃ A, bitsL N = A := ⟨_, rfl⟩
  rw [hA] at hx0 hsz l0 ⊢
  obtain ⟨A1, hA1⟩ : ∃ A, bitsL M1 = A := ⟨_, rfl⟩
  rw [hA1] at l0 l1
  obtain ⟨A2, hA2⟩ : ∃ A, bitsL M2 = A := ⟨_, rfl⟩
  rw [hA2] at l1 hsE hlE hoE ⊢
  have L0 := Lib.hid l0
  have L1 := Lib.hid l1
  have W3 : Box32 (((w.alloc (Obj.cells A.toArray 121)).alloc (Obj.cells #[.string ⟨s.toArray⟩, .int .i64 4, .int .i64 c, .int .i64 f3, .int .i64 f7, .int .i64 sh] 57)).alloc (Obj.cells #[.int .i64 0, .int .i64 0, .int .i64 0, .int .i64 0, .int .i64 0, .int .i64 0, .int .i64 0, .int .i64 0, .int .i64 0, .int .i64 0, .int .i64 0, .int .i64 0, .int .i64 0, .int .i64 0, .int .i64 0, .int .i64 0, .int .i64 0, .int .i64 0, .int .i64 0, .int .i64 0, .int .i64 0, .int .i64 0, .int .i64 0, .int .i64 0, .int .i64 0, .int .i64 0, .int .i64 0, .int .i64 0, .int .i64 0, .int .i64 0, .int .i64 0, .int .i64 0] 121)) ((w.alloc (Obj.cells A.toArray 121)).alloc (Obj.cells #[.string ⟨s.toArray⟩, .int .i64 4, .int .i64 c, .int .i64 f3, .int .i64 f7, .int .i64 sh] 57)).heap.size 0 := (Box32.new ((w.alloc (Obj.cells A.toArray 121)).alloc (Obj.cells #[.string ⟨s.toArray⟩, .int .i64 4, .int .i64 c, .int .i64 f3, .int .i64 f7, .int .i64 sh] 57)) 0 121)
  rw [show ((w.alloc (Obj.cells A.toArray 121)).alloc (Obj.cells #[.string ⟨s.toArray⟩, .int .i64 4, .int .i64 c, .int .i64 f3, .int .i64 f7, .int .i64 sh] 57)).heap.size = w.heap.size + 1 + 1 by rw [size_alloc, size_alloc]] at W3
  have X3 := Lib.hid ((hx0.on (bAlloc (Below.refl _ _) (Obj.cells #[.string ⟨s.toArray⟩, .int .i64 4, .int .i64 c, .int .i64 f3, .int .i64 f7, .int .i64 sh] 57))).on (bAlloc (Below.refl _ _) (Obj.cells #[.int .i64 0, .int .i64 0, .int .i64 0, .int .i64 0, .int .i64 0, .int .i64 0, .int .i64 0, .int .i64 0, .int .i64 0, .int .i64 0, .int .i64 0, .int .i64 0, .int .i64 0, .int .i64 0, .int .i64 0, .int .i64 0, .int .i64 0, .int .i64 0, .int .i64 0, .int .i64 0, .int .i64 0, .int .i64 0, .int .i64 0, .int .i64 0, .int .i64 0, .int .i64 0, .int .i64 0, .int .i64 0, .int .i64 0, .int .i64 0, .int .i64 0, .int .i64 0] 121)))
  have R3 := Lib.hid W3
  have HA := Lib.hid hA
  have HS := Lib.hid hsz
  have SE := Lib.hid hsE
  have LE := Lib.hid hlE
  have OE := Lib.hid hoE
  have Q3 := Lib.hid (show Below w.heap.size w ((((w.alloc (Obj.cells A.toArray 121)).alloc (Obj.cells #[.string ⟨s.toArray⟩, .int .i64 4, .int .i64 c, .int .i64 f3, .int .i64 f7, .int .i64 sh] 57)).alloc (Obj.cells #[.int .i64 0, .int .i64 0, .int .i64 0, .int .i64 0, .int .i64 0, .int .i64 0, .int .i64 0, .int .i64 0, .int .i64 0, .int .i64 0, .int .i64 0, .int .i64 0, .int .i64 0, .int .i64 0, .int .i64 0, .int .i64 0, .int .i64 0, .int .i64 0, .int .i64 0, .int .i64 0, .int .i64 0, .int .i64 0, .int .i64 0, .int .i64 0, .int .i64 0, .int .i64 0, .int .i64 0, .int .i64 0, .int .i64 0, .int .i64 0, .int .i64 0, .int .i64 0] 121))) from bAlloc (bAlloc (bAlloc (Below.refl _ _) _) _) _)
  clear hx0 hsz hsE hlE hoE W3 hA hA1 l0 hA2 l1
  go_enter Tryz.func75, Tryz.ntmps75
  go_upto_region 12 with fail
  apply wp_region_lit
  refine wpList_load_mid rfl _ _ rfl w.heap.size 0 rfl A (.array 32 3) (HA.out ▸ X3.out.range) Tryz.underlying121 rfl HS.out ?_
  go_wp2_with fail
  refine (L0.out _).mono ?_; rintro e w1 ⟨rfl, q1⟩
  have R10 := Lib.hid (R3.out.on q1); have Q10 := Lib.hid (bTrans Q3.out q1); clear q1
  go_wp2_with fail
  refine (L1.out _).mono ?_; rintro e w2 ⟨rfl, q2⟩
  have R11 := Lib.hid (R10.out.on q2); have Q11 := Lib.hid (bTrans Q10.out q2); clear q2
  simp only []
  go_at_K
  rename_i hK
  refine hK _ _ ?_
  clear hK
  refine wpList_store_mid rfl _ _ _ rfl (w.heap.size + 1 + 1) 0 A2.toArray rfl rfl ?_ ?_ (all_oneCell_toArray OE.out) ?_
  · have h : A2.toArray.size = 32 := by rw [List.size_toArray]; exact LE.out
    rw [h]; exact R11.out.there
  · have h : A2.toArray.size = A2.length := by rw [List.size_toArray]
    rw [h]; exact SE.out
  go_wp2_with fail
  refine bodyPost_ret (v := .agg A2.toArray) ?_ rfl ⟨rfl, ?_⟩
  · refine results_cell_mid Tryz.results75 _ _ (w.heap.size + 1 + 1) A2 (.array 32 3) rfl ?_ Tryz.underlying121 rfl SE.out
    exact World.rangeAt_setCells_same _ _ _ _ (by rw [LE.out]; exact R11.out.there)
  · exact below_setCells _ (by omega) _ _ _ Q11.out
set_option maxRecDepth 100000 in
theorem rest5 (s : List UInt8) (c f3 f7 sh n : Int) (N M1 M2 M3 M4 : Nat) (l0 : Lay N M1 12 1 31 n) (l1 : Lay M1 M2 5 6 25 n) (l2 : Lay M2 M3 1 4 8 n) (l3 : Lay M3 M4 11 1 7 n) : Rest N M4 s 5 c f3 f7 sh n := by
  intro w
  have hx0 := Box32.new w N 121
  have hsz := wordSize N
  have hsE := wordSize M4
  have hlE := bitsL_len M4
  have hoE := bitsL_one M4
  unfold Lay wordV at l0 l1 l2 l3
  unfold wordV operV
  obtain ⟨A, hA⟩ : ∃ A, bitsL N = A := ⟨_, rfl⟩
  rw [hA] at hx0 hsz l0 ⊢
  obtain ⟨A1, hA1⟩ : ∃ A, bitsL M1 = A := ⟨_, rfl⟩
  rw [hA1] at l0 l1
  obtain ⟨A2, hA2⟩ : ∃ A, bitsL M2 = A := ⟨_, rfl⟩
  rw [hA2] at l1 l2
  obtain ⟨A3, hA3⟩ : ∃ A, bitsL M3 = A := ⟨_, rfl⟩
  rw [hA3] at l2 l3
  obtain ⟨A4, hA4⟩ : ∃ A, bitsL M4 = A := ⟨_, rfl⟩
  rw [hA4] at l3 hsE hlE hoE ⊢
  have L0 := Lib.hid l0
  have L1 := Lib.hid l1
  have L2 := Lib.hid l2
  have L3 := Lib.hid l3
  have W3 : Box32 (((w.alloc (Obj.cells A.toArray 121)).alloc (Obj.cells #[.string ⟨s.toArray⟩, .int .i64 5, .int .i64 c, .int .i64 f3, .int .i64 f7, .int .i64 sh] 57)).alloc (Obj.cells #[.int .i64 0, .int .i64 0, .int .i64 0, .int .i64 0, .int .i64 0, .int .i64 0, .int .i64 0, .int .i64 0, .int .i64 0, .int .i64 0, .int .i64 0, .int .i64 0, .int .i64 0, .int .i64 0, .int .i64 0, .int .i64 0, .int .i64 0, .int .i64 0, .int .i64 0, .int .i64 0, .int .i64 0, .int .i64 0, .int .i64 0, .int .i64 0, .int .i64 0, .int .i64 0, .int .i64 0, .int .i64 0, .int .i64 0, .int .i64 0, .int .i64 0, .int .i64 0] 121)) ((w.alloc (Obj.cells A.toArray 121)).alloc (Obj.cells #[.string ⟨s.toArray⟩, .int .i64 5, .int .i64 c, .int .i64 f3, .int .i64 f7, .int .i64 sh] 57)).heap.size 0 := (Box32.new ((w.alloc (Obj.cells A.toArray 121)).alloc (Obj.cells #[.string ⟨s.toArray⟩, .int .i64 5, .int .i64 c, .int .i64 f3, .int .i64 f7, .int .i64 sh] 57)) 0 121)
  rw [show ((w.alloc (Obj.cells A.toArray 121)).alloc (Obj.cells #[.string ⟨s.toArray⟩, .int .i64 5, .int .i64 c, .int .i64 f3, .int .i64 f7, .int .i64 sh] 57)).heap.size = w.heap.size + 1 + 1 by rw [size_alloc, size_alloc]] at W3
  have X3 := Lib.hid ((hx0.on (bAlloc (Below.refl _ _) (Obj.cells #[.string ⟨s.toArray⟩, .int .i64 5, .int .i64 c, .int .i64 f3, .int .i64 f7, .int .i64 sh] 57))).on (bAlloc (Below.refl _ _) (Obj.cells #[.int .i64 0, .int .i64 0, .int .i64 0, .int .i64 0, .int .i64 0, .int .i64 0, .int .i64 0, .int .i64 0, .int .i64 0, .int .i64 0, .int .i64 0, .int .i64 0, .int .i64 0, .int .i64 0, .int .i64 0, .int .i64 0, .int .i64 0, .int .i64 0, .int .i64 0, .int .i64 0, .int .i64 0, .int .i64 0, .int .i64 0, .int .i64 0, .int .i64 0, .int .i64 0, .int .i64 0, .int .i64 0, .int .i64 0, .int .i64 0, .int .i64 0, .int .i64 0] 121)))
  have R3 := Lib.hid W3
  have HA := Lib.hid hA
  have HS := Lib.hid hsz
  have SE := Lib.hid hsE
  have LE := Lib.hid hlE
  have OE := Lib.hid hoE
  have Q3 := Lib.hid (show Below w.heap.size w ((((w.alloc (Obj.cells A.toArray 121)).alloc (Obj.cells #[.string ⟨s.toArray⟩, .int .i64 5, .int .i64 c, .int .i64 f3, .int .i64 f7, .int .i64 sh] 57)).alloc (Obj.cells #[.int .i64 0, .int .i64 0, .int .i64 0, .int .i64 0, .int .i64 0, .int .i64 0, .int .i64 0, .int .i64 0, .int .i64 0, .int .i64 0, .int .i64 0, .int .i64 0, .int .i64 0, .int .i64 0, .int .i64 0, .int .i64 0, .int .i64 0, .int .i64 0, .int .i64 0, .int .i64 0, .int .i64 0, .int .i64 0, .int .i64 0, .int .i64 0, .int .i64 0, .int .i64 0, .int .i64 0, .int .i64 0, .int .i64 0, .int .i64 0, .int .i64 0, .int .i64 0] 121))) from bAlloc (bAlloc (bAlloc (Below.refl _ _) _) _) _)
  clear hx0 hsz hsE hlE hoE W3 hA hA1 l0 hA2 l1 hA3 l2 hA4 l3
  go_enter Tryz.func75, Tryz.ntmps75
  go_upto_region 14 with fail
  apply wp_region_lit
  refine wpList_load_mid rfl _ _ rfl w.heap.size 0 rfl A (.array 32 3) (HA.out ▸ X3.out.range) Tryz.underlying121 rfl HS.out ?_
  go_wp2_with fail
  refine (L0.out _).mono ?_; rintro e w1 ⟨rfl, q1⟩
  have R10 := Lib.hid (R3.out.on q1); have Q10 := Lib.hid (bTrans Q3.out q1); clear q1
  go_wp2_with fail
  refine (L1.out _).mono ?_; rintro e w2 ⟨rfl, q2⟩
  have R11 := Lib.hid (R10.out.on q2); have Q11 := Lib.hid (bTrans Q10.out q2); clear q2
  go_wp2_with fail
  refine (L2.out _).mono ?_; rintro e w3 ⟨rfl, q3⟩
  have R12 := Lib.hid (R11.out.on q3); have Q12 := Lib.hid (bTrans Q11.out q3); clear q3
  go_wp2_with fail
  refine (L3.out _).mono ?_; rintro e w4 ⟨rfl, q4⟩
  have R13 := Lib.hid (R12.out.on q4); have Q13 := Lib.hid (bTrans Q12.out q4); clear q4
  simp only []
  go_at_K
  rename_i hK
  refine hK _ _ ?_
  clear hK
  refine wpList_store_mid rfl _ _ _ rfl (w.heap.size + 1 + 1) 0 A4.toArray rfl rfl ?_ ?_ (all_oneCell_toArray OE.out) ?_
  · have h : A4.toArray.size = 32 := by rw [List.size_toArray]; exact LE.out
    rw [h]; exact R13.out.there
  · have h : A4.toArray.size = A4.length := by rw [List.size_toArray]
    rw [h]; exact SE.out
  go_wp2_with fail
  refine bodyPost_ret (v := .agg A4.toArray) ?_ rfl ⟨rfl, ?_⟩
  · refine results_cell_mid Tryz.results75 _ _ (w.heap.size + 1 + 1) A4 (.array 32 3) rfl ?_ Tryz.underlying121 rfl SE.out
    exact World.rangeAt_setCells_same _ _ _ _ (by rw [LE.out]; exact R13.out.there)
  · exact below_setCells _ (by omega) _ _ _ Q13.out
set_option maxRecDepth 100000 in
theorem rest6 (s : List UInt8) (c f3 f7 sh n : Int) (N M1 : Nat) (l0 : Lay N M1 12 20 12 n) : Rest N M1 s 6 c f3 f7 sh n := by
  intro w
  have hx0 := Box32.new w N 121
  have hsz := wordSize N
  have hsE := wordSize M1
  have hlE := bitsL_len M1
  have hoE := bitsL_one M1
  unfold Lay wordV at l0
  unfold wordV operV
  obtain ⟨A, hA⟩ : ∃ A, bitsL N = A := ⟨_, rfl⟩
  rw [hA] at hx0 hsz l0 ⊢
  obtain ⟨A1, hA1⟩ : ∃ A, bitsL M1 = A := ⟨_, rfl⟩
  rw [hA1] at l0 hsE hlE hoE ⊢
  have L0 := Lib.hid l0
  have W3 : Box32 (((w.alloc (Obj.cells A.toArray 121)).alloc (Obj.cells #[.string ⟨s.toArray⟩, .int .i64 6, .int .i64 c, .int .i64 f3, .int .i64 f7, .int .i64 sh] 57)).alloc (Obj.cells #[.int .i64 0, .int .i64 0, .int .i64 0, .int .i64 0, .int .i64 0, .int .i64 0, .int .i64 0, .int .i64 0, .int .i64 0, .int .i64 0, .int .i64 0, .int .i64 0, .int .i64 0, .int .i64 0, .int .i64 0, .int .i64 0, .int .i64 0, .int .i64 0, .int .i64 0, .int .i64 0, .int .i64 0, .int .i64 0, .int .i64 0, .int .i64 0, .int .i64 0, .int .i64 0, .int .i64 0, .int .i64 0, .int .i64 0, .int .i64 0, .int .i64 0, .int .i64 0] 121)) ((w.alloc (Obj.cells A.toArray 121)).alloc (Obj.cells #[.string ⟨s.toArray⟩, .int .i64 6, .int .i64 c, .int .i64 f3, .int .i64 f7, .int .i64 sh] 57)).heap.size 0 := (Box32.new ((w.alloc (Obj.cells A.toArray 121)).alloc (Obj.cells #[.string ⟨s.toArray⟩, .int .i64 6, .int .i64 c, .int .i64 f3, .int .i64 f7, .int .i64 sh] 57)) 0 121)
  rw [show ((w.alloc (Obj.cells A.toArray 121)).alloc (Obj.cells #[.string ⟨s.toArray⟩, .int .i64 6, .int .i64 c, .int .i64 f3, .int .i64 f7, .int .i64 sh] 57)).heap.size = w.heap.size + 1 + 1 by rw [size_alloc, size_alloc]] at W3
  have X3 := Lib.hid ((hx0.on (bAlloc (Below.refl _ _) (Obj.cells #[.string ⟨s.toArray⟩, .int .i64 6, .int .i64 c, .int .i64 f3, .int .i64 f7, .int .i64 sh] 57))).on (bAlloc (Below.refl _ _) (Obj.cells #[.int .i64 0, .int .i64 0, .int .i64 0, .int .i64 0, .int .i64 0, .int .i64 0, .int .i64 0, .int .i64 0, .int .i64 0, .int .i64 0, .int .i64 0, .int .i64 0, .int .i64 0, .int .i64 0, .int .i64 0, .int .i64 0, .int .i64 0, .int .i64 0, .int .i64 0, .int .i64 0, .int .i64 0, .int .i64 0, .int .i64 0, .int .i64 0, .int .i64 0, .int .i64 0, .int .i64 0, .int .i64 0, .int .i64 0, .int .i64 0, .int .i64 0, .int .i64 0] 121)))
  have R3 := Lib.hid W3
  have HA := Lib.hid hA
  have HS := Lib.hid hsz
  have SE := Lib.hid hsE
  have LE := Lib.hid hlE
  have OE := Lib.hid hoE
  have Q3 := Lib.hid (show Below w.heap.size w ((((w.alloc (Obj.cells A.toArray 121)).alloc (Obj.cells #[.string ⟨s.toArray⟩, .int .i64 6, .int .i64 c, .int .i64 f3, .int .i64 f7, .int .i64 sh] 57)).alloc (Obj.cells #[.int .i64 0, .int .i64 0, .int .i64 0, .int .i64 0, .int .i64 0, .int .i64 0, .int .i64 0, .int .i64 0, .int .i64 0, .int .i64 0, .int .i64 0, .int .i64 0, .int .i64 0, .int .i64 0, .int .i64 0, .int .i64 0, .int .i64 0, .int .i64 0, .int .i64 0, .int .i64 0, .int .i64 0, .int .i64 0, .int .i64 0, .int .i64 0, .int .i64 0, .int .i64 0, .int .i64 0, .int .i64 0, .int .i64 0, .int .i64 0, .int .i64 0, .int .i64 0] 121))) from bAlloc (bAlloc (bAlloc (Below.refl _ _) _) _) _)
  clear hx0 hsz hsE hlE hoE W3 hA hA1 l0
  go_enter Tryz.func75, Tryz.ntmps75
  go_upto_region 16 with fail
  apply wp_region_lit
  refine wpList_load_mid rfl _ _ rfl w.heap.size 0 rfl A (.array 32 3) (HA.out ▸ X3.out.range) Tryz.underlying121 rfl HS.out ?_
  go_wp2_with fail
  refine (L0.out _).mono ?_; rintro e w1 ⟨rfl, q1⟩
  have R10 := Lib.hid (R3.out.on q1); have Q10 := Lib.hid (bTrans Q3.out q1); clear q1
  simp only []
  go_at_K
  rename_i hK
  refine hK _ _ ?_
  clear hK
  refine wpList_store_mid rfl _ _ _ rfl (w.heap.size + 1 + 1) 0 A1.toArray rfl rfl ?_ ?_ (all_oneCell_toArray OE.out) ?_
  · have h : A1.toArray.size = 32 := by rw [List.size_toArray]; exact LE.out
    rw [h]; exact R10.out.there
  · have h : A1.toArray.size = A1.length := by rw [List.size_toArray]
    rw [h]; exact SE.out
  go_wp2_with fail
  refine bodyPost_ret (v := .agg A1.toArray) ?_ rfl ⟨rfl, ?_⟩
  · refine results_cell_mid Tryz.results75 _ _ (w.heap.size + 1 + 1) A1 (.array 32 3) rfl ?_ Tryz.underlying121 rfl SE.out
    exact World.rangeAt_setCells_same _ _ _ _ (by rw [LE.out]; exact R10.out.there)
  · exact below_setCells _ (by omega) _ _ _ Q10.out
set_option maxRecDepth 100000 in
theorem rest7 (s : List UInt8) (c f3 f7 sh n : Int) (N M1 M2 M3 M4 : Nat) (l0 : Lay N M1 20 1 31 n) (l1 : Lay M1 M2 1 10 21 n) (l2 : Lay M2 M3 11 1 20 n) (l3 : Lay M3 M4 12 8 12 n) : Rest N M4 s 7 c f3 f7 sh n := by
  intro w
  have hx0 := Box32.new w N 121
  have hsz := wordSize N
  have hsE := wordSize M4
  have hlE := bitsL_len M4
  have hoE := bitsL_one M4
  unfold Lay wordV at l0 l1 l2 l3
  unfold wordV operV
  obtain ⟨A, hA⟩ : ∃ A, bitsL N = A := ⟨_, rfl⟩
  rw [hA] at hx0 hsz l0 ⊢
  obtain ⟨A1, hA1⟩ : ∃ A, bitsL M1 = A := ⟨_, rfl⟩
  rw [hA1] at l0 l1
  obtain ⟨A2, hA2⟩ : ∃ A, bitsL M2 = A := ⟨_, rfl⟩
  rw [hA2] at l1 l2
  obtain ⟨A3, hA3⟩ : ∃ A, bitsL M3 = A := ⟨_, rfl⟩
  rw [hA3] at l2 l3
  obtain ⟨A4, hA4⟩ : ∃ A, bitsL M4 = A := ⟨_, rfl⟩
  rw [hA4] at l3 hsE hlE hoE ⊢
  have L0 := Lib.hid l0
  have L1 := Lib.hid l1
  have L2 := Lib.hid l2
  have L3 := Lib.hid l3
  have W3 : Box32 (((w.alloc (Obj.cells A.toArray 121)).alloc (Obj.cells #[.string ⟨s.toArray⟩, .int .i64 7, .int .i64 c, .int .i64 f3, .int .i64 f7, .int .i64 sh] 57)).alloc (Obj.cells #[.int .i64 0, .int .i64 0, .int .i64 0, .int .i64 0, .int .i64 0, .int .i64 0, .int .i64 0, .int .i64 0, .int .i64 0, .int .i64 0, .int .i64 0, .int .i64 0, .int .i64 0, .int .i64 0, .int .i64 0, .int .i64 0, .int .i64 0, .int .i64 0, .int .i64 0, .int .i64 0, .int .i64 0, .int .i64 0, .int .i64 0, .int .i64 0, .int .i64 0, .int .i64 0, .int .i64 0, .int .i64 0, .int .i64 0, .int .i64 0, .int .i64 0, .int .i64 0] 121)) ((w.alloc (Obj.cells A.toArray 121)).alloc (Obj.cells #[.string ⟨s.toArray⟩, .int .i64 7, .int .i64 c, .int .i64 f3, .int .i64 f7, .int .i64 sh] 57)).heap.size 0 := (Box32.new ((w.alloc (Obj.cells A.toArray 121)).alloc (Obj.cells #[.string ⟨s.toArray⟩, .int .i64 7, .int .i64 c, .int .i64 f3, .int .i64 f7, .int .i64 sh] 57)) 0 121)
  rw [show ((w.alloc (Obj.cells A.toArray 121)).alloc (Obj.cells #[.string ⟨s.toArray⟩, .int .i64 7, .int .i64 c, .int .i64 f3, .int .i64 f7, .int .i64 sh] 57)).heap.size = w.heap.size + 1 + 1 by rw [size_alloc, size_alloc]] at W3
  have X3 := Lib.hid ((hx0.on (bAlloc (Below.refl _ _) (Obj.cells #[.string ⟨s.toArray⟩, .int .i64 7, .int .i64 c, .int .i64 f3, .int .i64 f7, .int .i64 sh] 57))).on (bAlloc (Below.refl _ _) (Obj.cells #[.int .i64 0, .int .i64 0, .int .i64 0, .int .i64 0, .int .i64 0, .int .i64 0, .int .i64 0, .int .i64 0, .int .i64 0, .int .i64 0, .int .i64 0, .int .i64 0, .int .i64 0, .int .i64 0, .int .i64 0, .int .i64 0, .int .i64 0, .int .i64 0, .int .i64 0, .int .i64 0, .int .i64 0, .int .i64 0, .int .i64 0, .int .i64 0, .int .i64 0, .int .i64 0, .int .i64 0, .int .i64 0, .int .i64 0, .int .i64 0, .int .i64 0, .int .i64 0] 121)))
  have R3 := Lib.hid W3
  have HA := Lib.hid hA
  have HS := Lib.hid hsz
  have SE := Lib.hid hsE
  have LE := Lib.hid hlE
  have OE := Lib.hid hoE
  have Q3 := Lib.hid (show Below w.heap.size w ((((w.alloc (Obj.cells A.toArray 121)).alloc (Obj.cells #[.string ⟨s.toArray⟩, .int .i64 7, .int .i64 c, .int .i64 f3, .int .i64 f7, .int .i64 sh] 57)).alloc (Obj.cells #[.int .i64 0, .int .i64 0, .int .i64 0, .int .i64 0, .int .i64 0, .int .i64 0, .int .i64 0, .int .i64 0, .int .i64 0, .int .i64 0, .int .i64 0, .int .i64 0, .int .i64 0, .int .i64 0, .int .i64 0, .int .i64 0, .int .i64 0, .int .i64 0, .int .i64 0, .int .i64 0, .int .i64 0, .int .i64 0, .int .i64 0, .int .i64 0, .int .i64 0, .int .i64 0, .int .i64 0, .int .i64 0, .int .i64 0, .int .i64 0, .int .i64 0, .int .i64 0] 121))) from bAlloc (bAlloc (bAlloc (Below.refl _ _) _) _) _)
  clear hx0 hsz hsE hlE hoE W3 hA hA1 l0 hA2 l1 hA3 l2 hA4 l3
  go_enter Tryz.func75, Tryz.ntmps75
  go_upto_region 18 with fail
  apply wp_region_lit
  refine wpList_load_mid rfl _ _ rfl w.heap.size 0 rfl A (.array 32 3) (HA.out ▸ X3.out.range) Tryz.underlying121 rfl HS.out ?_
  go_wp2_with fail
  refine (L0.out _).mono ?_; rintro e w1 ⟨rfl, q1⟩
  have R10 := Lib.hid (R3.out.on q1); have Q10 := Lib.hid (bTrans Q3.out q1); clear q1
  go_wp2_with fail
  refine (L1.out _).mono ?_; rintro e w2 ⟨rfl, q2⟩
  have R11 := Lib.hid (R10.out.on q2); have Q11 := Lib.hid (bTrans Q10.out q2); clear q2
  go_wp2_with fail
  refine (L2.out _).mono ?_; rintro e w3 ⟨rfl, q3⟩
  have R12 := Lib.hid (R11.out.on q3); have Q12 := Lib.hid (bTrans Q11.out q3); clear q3
  go_wp2_with fail
  refine (L3.out _).mono ?_; rintro e w4 ⟨rfl, q4⟩
  have R13 := Lib.hid (R12.out.on q4); have Q13 := Lib.hid (bTrans Q12.out q4); clear q4
  simp only []
  go_at_K
  rename_i hK
  refine hK _ _ ?_
  clear hK
  refine wpList_store_mid rfl _ _ _ rfl (w.heap.size + 1 + 1) 0 A4.toArray rfl rfl ?_ ?_ (all_oneCell_toArray OE.out) ?_
  · have h : A4.toArray.size = 32 := by rw [List.size_toArray]; exact LE.out
    rw [h]; exact R13.out.there
  · have h : A4.toArray.size = A4.length := by rw [List.size_toArray]
    rw [h]; exact SE.out
  go_wp2_with fail
  refine bodyPost_ret (v := .agg A4.toArray) ?_ rfl ⟨rfl, ?_⟩
  · refine results_cell_mid Tryz.results75 _ _ (w.heap.size + 1 + 1) A4 (.array 32 3) rfl ?_ Tryz.underlying121 rfl SE.out
    exact World.rangeAt_setCells_same _ _ _ _ (by rw [LE.out]; exact R13.out.there)
  · exact below_setCells _ (by omega) _ _ _ Q13.out
set_option maxRecDepth 100000 in
theorem rest8 (s : List UInt8) (c f3 f7 sh n : Int) (N M1 M2 : Nat) (l0 : Lay N M1 0 5 20 f7) (l1 : Lay M1 M2 0 7 25 127) : Rest N M2 s 8 c f3 f7 sh n := by
  intro w
  have hx0 := Box32.new w N 121
  have hsz := wordSize N
  have hsE := wordSize M2
  have hlE := bitsL_len M2
  have hoE := bitsL_one M2
  unfold Lay wordV at l0 l1
  unfold wordV operV
  obtain ⟨A, hA⟩ : ∃ A, bitsL N = A := ⟨_, rfl⟩
  rw [hA] at hx0 hsz l0 ⊢
  obtain ⟨A1, hA1⟩ : ∃ A, bitsL M1 = A := ⟨_, rfl⟩
  rw [hA1] at l0 l1
  obtain ⟨A2, hA2⟩ : ∃ A, bitsL M2 = A := ⟨_, rfl⟩
  rw [hA2] at l1 hsE hlE hoE ⊢
  have L0 := Lib.hid l0
  have L1 := Lib.hid l1
  have W3 : Box32 (((w.alloc (Obj.cells A.toArray 121)).alloc (Obj.cells #[.string ⟨s.toArray⟩, .int .i64 8, .int .i64 c, .int .i64 f3, .int .i64 f7, .int .i64 sh] 57)).alloc (Obj.cells #[.int .i64 0, .int .i64 0, .int .i64 0, .int .i64 0, .int .i64 0, .int .i64 0, .int .i64 0, .int .i64 0, .int .i64 0, .int .i64 0, .int .i64 0, .int .i64 0, .int .i64 0, .int .i64 0, .int .i64 0, .int .i64 0, .int .i64 0, .int .i64 0, .int .i64 0, .int .i64 0, .int .i64 0, .int .i64 0, .int .i64 0, .int .i64 0, .int .i64 0, .int .i64 0, .int .i64 0, .int .i64 0, .int .i64 0, .int .i64 0, .int .i64 0, .int .i64 0] 121)) ((w.alloc (Obj.cells A.toArray 121)).alloc (Obj.cells #[.string ⟨s.toArray⟩, .int .i64 8, .int .i64 c, .int .i64 f3, .int .i64 f7, .int .i64 sh] 57)).heap.size 0 := (Box32.new ((w.alloc (Obj.cells A.toArray 121)).alloc (Obj.cells #[.string ⟨s.toArray⟩, .int .i64 8, .int .i64 c, .int .i64 f3, .int .i64 f7, .int .i64 sh] 57)) 0 121)
  rw [show ((w.alloc (Obj.cells A.toArray 121)).alloc (Obj.cells #[.string ⟨s.toArray⟩, .int .i64 8, .int .i64 c, .int .i64 f3, .int .i64 f7, .int .i64 sh] 57)).heap.size = w.heap.size + 1 + 1 by rw [size_alloc, size_alloc]] at W3
  have X3 := Lib.hid ((hx0.on (bAlloc (Below.refl _ _) (Obj.cells #[.string ⟨s.toArray⟩, .int .i64 8, .int .i64 c, .int .i64 f3, .int .i64 f7, .int .i64 sh] 57))).on (bAlloc (Below.refl _ _) (Obj.cells #[.int .i64 0, .int .i64 0, .int .i64 0, .int .i64 0, .int .i64 0, .int .i64 0, .int .i64 0, .int .i64 0, .int .i64 0, .int .i64 0, .int .i64 0, .int .i64 0, .int .i64 0, .int .i64 0, .int .i64 0, .int .i64 0, .int .i64 0, .int .i64 0, .int .i64 0, .int .i64 0, .int .i64 0, .int .i64 0, .int .i64 0, .int .i64 0, .int .i64 0, .int .i64 0, .int .i64 0, .int .i64 0, .int .i64 0, .int .i64 0, .int .i64 0, .int .i64 0] 121)))
  have R3 := Lib.hid W3
  have HA := Lib.hid hA
  have HS := Lib.hid hsz
  have SE := Lib.hid hsE
  have LE := Lib.hid hlE
  have OE := Lib.hid hoE
  have Q3 := Lib.hid (show Below w.heap.size w ((((w.alloc (Obj.cells A.toArray 121)).alloc (Obj.cells #[.string ⟨s.toArray⟩, .int .i64 8, .int .i64 c, .int .i64 f3, .int .i64 f7, .int .i64 sh] 57)).alloc (Obj.cells #[.int .i64 0, .int .i64 0, .int .i64 0, .int .i64 0, .int .i64 0, .int .i64 0, .int .i64 0, .int .i64 0, .int .i64 0, .int .i64 0, .int .i64 0, .int .i64 0, .int .i64 0, .int .i64 0, .int .i64 0, .int .i64 0, .int .i64 0, .int .i64 0, .int .i64 0, .int .i64 0, .int .i64 0, .int .i64 0, .int .i64 0, .int .i64 0, .int .i64 0, .int .i64 0, .int .i64 0, .int .i64 0, .int .i64 0, .int .i64 0, .int .i64 0, .int .i64 0] 121))) from bAlloc (bAlloc (bAlloc (Below.refl _ _) _) _) _)
  clear hx0 hsz hsE hlE hoE W3 hA hA1 l0 hA2 l1
  go_enter Tryz.func75, Tryz.ntmps75
  go_upto_region 20 with fail
  apply wp_region_lit
  refine wpList_load_mid rfl _ _ rfl w.heap.size 0 rfl A (.array 32 3) (HA.out ▸ X3.out.range) Tryz.underlying121 rfl HS.out ?_
  go_wp2_with fail
  refine (L0.out _).mono ?_; rintro e w1 ⟨rfl, q1⟩
  have R10 := Lib.hid (R3.out.on q1); have Q10 := Lib.hid (bTrans Q3.out q1); clear q1
  go_wp2_with fail
  refine (L1.out _).mono ?_; rintro e w2 ⟨rfl, q2⟩
  have R11 := Lib.hid (R10.out.on q2); have Q11 := Lib.hid (bTrans Q10.out q2); clear q2
  simp only []
  go_at_K
  rename_i hK
  refine hK _ _ ?_
  clear hK
  refine wpList_store_mid rfl _ _ _ rfl (w.heap.size + 1 + 1) 0 A2.toArray rfl rfl ?_ ?_ (all_oneCell_toArray OE.out) ?_
  · have h : A2.toArray.size = 32 := by rw [List.size_toArray]; exact LE.out
    rw [h]; exact R11.out.there
  · have h : A2.toArray.size = A2.length := by rw [List.size_toArray]
    rw [h]; exact SE.out
  go_wp2_with fail
  refine bodyPost_ret (v := .agg A2.toArray) ?_ rfl ⟨rfl, ?_⟩
  · refine results_cell_mid Tryz.results75 _ _ (w.heap.size + 1 + 1) A2 (.array 32 3) rfl ?_ Tryz.underlying121 rfl SE.out
    exact World.rangeAt_setCells_same _ _ _ _ (by rw [LE.out]; exact R11.out.there)
  · exact below_setCells _ (by omega) _ _ _ Q11.out
set_option maxRecDepth 100000 in
theorem rest10 (s : List UInt8) (c f3 f7 sh n : Int) (N M1 M2 : Nat) (l0 : Lay N M1 0 5 7 1) (l1 : Lay M1 M2 0 7 25 f7) : Rest N M2 s 10 c f3 f7 sh n := by
  intro w
  have hx0 := Box32.new w N 121
  have hsz := wordSize N
  have hsE := wordSize M2
  have hlE := bitsL_len M2
  have hoE := bitsL_one M2
  unfold Lay wordV at l0 l1
  unfold wordV operV
  obtain ⟨A, hA⟩ : ∃ A, bitsL N = A := ⟨_, rfl⟩
  rw [hA] at hx0 hsz l0 ⊢
  obtain ⟨A1, hA1⟩ : ∃ A, bitsL M1 = A := ⟨_, rfl⟩
  rw [hA1] at l0 l1
  obtain ⟨A2, hA2⟩ : ∃ A, bitsL M2 = A := ⟨_, rfl⟩
  rw [hA2] at l1 hsE hlE hoE ⊢
  have L0 := Lib.hid l0
  have L1 := Lib.hid l1
  have W3 : Box32 (((w.alloc (Obj.cells A.toArray 121)).alloc (Obj.cells #[.string ⟨s.toArray⟩, .int .i64 10, .int .i64 c, .int .i64 f3, .int .i64 f7, .int .i64 sh] 57)).alloc (Obj.cells #[.int .i64 0, .int .i64 0, .int .i64 0, .int .i64 0, .int .i64 0, .int .i64 0, .int .i64 0, .int .i64 0, .int .i64 0, .int .i64 0, .int .i64 0, .int .i64 0, .int .i64 0, .int .i64 0, .int .i64 0, .int .i64 0, .int .i64 0, .int .i64 0, .int .i64 0, .int .i64 0, .int .i64 0, .int .i64 0, .int .i64 0, .int .i64 0, .int .i64 0, .int .i64 0, .int .i64 0, .int .i64 0, .int .i64 0, .int .i64 0, .int .i64 0, .int .i64 0] 121)) ((w.alloc (Obj.cells A.toArray 121)).alloc (Obj.cells #[.string ⟨s.toArray⟩, .int .i64 10, .int .i64 c, .int .i64 f3, .int .i64 f7, .int .i64 sh] 57)).heap.size 0 := (Box32.new ((w.alloc (Obj.cells A.toArray 121)).alloc (Obj.cells #[.string ⟨s.toArray⟩, .int .i64 10, .int .i64 c, .int .i64 f3, .int .i64 f7, .int .i64 sh] 57)) 0 121)
  rw [show ((w.alloc (Obj.cells A.toArray 121)).alloc (Obj.cells #[.string ⟨s.toArray⟩, .int .i64 10, .int .i64 c, .int .i64 f3, .int .i64 f7, .int .i64 sh] 57)).heap.size = w.heap.size + 1 + 1 by rw [size_alloc, size_alloc]] at W3
  have X3 := Lib.hid ((hx0.on (bAlloc (Below.refl _ _) (Obj.cells #[.string ⟨s.toArray⟩, .int .i64 10, .int .i64 c, .int .i64 f3, .int .i64 f7, .int .i64 sh] 57))).on (bAlloc (Below.refl _ _) (Obj.cells #[.int .i64 0, .int .i64 0, .int .i64 0, .int .i64 0, .int .i64 0, .int .i64 0, .int .i64 0, .int .i64 0, .int .i64 0, .int .i64 0, .int .i64 0, .int .i64 0, .int .i64 0, .int .i64 0, .int .i64 0, .int .i64 0, .int .i64 0, .int .i64 0, .int .i64 0, .int .i64 0, .int .i64 0, .int .i64 0, .int .i64 0, .int .i64 0, .int .i64 0, .int .i64 0, .int .i64 0, .int .i64 0, .int .i64 0, .int .i64 0, .int .i64 0, .int .i64 0] 121)))
  have R3 := Lib.hid W3
  have HA := Lib.hid hA
  have HS := Lib.hid hsz
  have SE := Lib.hid hsE
  have LE := Lib.hid hlE
  have OE := Lib.hid hoE
  have Q3 := Lib.hid (show Below w.heap.size w ((((w.alloc (Obj.cells A.toArray 121)).alloc (Obj.cells #[.string ⟨s.toArray⟩, .int .i64 10, .int .i64 c, .int .i64 f3, .int .i64 f7, .int .i64 sh] 57)).alloc (Obj.cells #[.int .i64 0, .int .i64 0, .int .i64 0, .int .i64 0, .int .i64 0, .int .i64 0, .int .i64 0, .int .i64 0, .int .i64 0, .int .i64 0, .int .i64 0, .int .i64 0, .int .i64 0, .int .i64 0, .int .i64 0, .int .i64 0, .int .i64 0, .int .i64 0, .int .i64 0, .int .i64 0, .int .i64 0, .int .i64 0, .int .i64 0, .int .i64 0, .int .i64 0, .int .i64 0, .int .i64 0, .int .i64 0, .int .i64 0, .int .i64 0, .int .i64 0, .int .i64 0] 121))) from bAlloc (bAlloc (bAlloc (Below.refl _ _) _) _) _)
  clear hx0 hsz hsE hlE hoE W3 hA hA1 l0 hA2 l1
  go_enter Tryz.func75, Tryz.ntmps75
  go_upto_region 22 with fail
  have KS := Lib.hid (show ∀ W', Below (((w.alloc (Obj.cells A.toArray 121)).alloc (Obj.cells #[.string ⟨s.toArray⟩, .int .i64 10, .int .i64 c, .int .i64 f3, .int .i64 f7, .int .i64 sh] 57)).alloc (Obj.cells #[.int .i64 0, .int .i64 0, .int .i64 0, .int .i64 0, .int .i64 0, .int .i64 0, .int .i64 0, .int .i64 0, .int .i64 0, .int .i64 0, .int .i64 0, .int .i64 0, .int .i64 0, .int .i64 0, .int .i64 0, .int .i64 0, .int .i64 0, .int .i64 0, .int .i64 0, .int .i64 0, .int .i64 0, .int .i64 0, .int .i64 0, .int .i64 0, .int .i64 0, .int .i64 0, .int .i64 0, .int .i64 0, .int .i64 0, .int .i64 0, .int .i64 0, .int .i64 0] 121)).heap.size (((w.alloc (Obj.cells A.toArray 121)).alloc (Obj.cells #[.string ⟨s.toArray⟩, .int .i64 10, .int .i64 c, .int .i64 f3, .int .i64 f7, .int .i64 sh] 57)).alloc (Obj.cells #[.int .i64 0, .int .i64 0, .int .i64 0, .int .i64 0, .int .i64 0, .int .i64 0, .int .i64 0, .int .i64 0, .int .i64 0, .int .i64 0, .int .i64 0, .int .i64 0, .int .i64 0, .int .i64 0, .int .i64 0, .int .i64 0, .int .i64 0, .int .i64 0, .int .i64 0, .int .i64 0, .int .i64 0, .int .i64 0, .int .i64 0, .int .i64 0, .int .i64 0, .int .i64 0, .int .i64 0, .int .i64 0, .int .i64 0, .int .i64 0, .int .i64 0, .int .i64 0] 121)) W' → (fun W : World => W.rangeAt w.heap.size 0 A ∧ W.cell? ⟨w.heap.size + 1, 4, none⟩ = some (.int .i64 f7) ∧ W.there (w.heap.size + 1 + 1) 0 32) W' from fun W' hb => ⟨HA.out ▸ (X3.out.on hb).range, (hb.cell (p := ⟨w.heap.size + 1, 4, none⟩) (by rw [size_alloc, size_alloc, size_alloc]; simp only []; omega)).trans (((bAlloc (Below.refl _ _) (Obj.cells #[.int .i64 0, .int .i64 0, .int .i64 0, .int .i64 0, .int .i64 0, .int .i64 0, .int .i64 0, .int .i64 0, .int .i64 0, .int .i64 0, .int .i64 0, .int .i64 0, .int .i64 0, .int .i64 0, .int .i64 0, .int .i64 0, .int .i64 0, .int .i64 0, .int .i64 0, .int .i64 0, .int .i64 0, .int .i64 0, .int .i64 0, .int .i64 0, .int .i64 0, .int .i64 0, .int .i64 0, .int .i64 0, .int .i64 0, .int .i64 0, .int .i64 0, .int .i64 0] 121)).cell (w := (w.alloc (Obj.cells A.toArray 121)).alloc (Obj.cells #[.string ⟨s.toArray⟩, .int .i64 10, .int .i64 c, .int .i64 f3, .int .i64 f7, .int .i64 sh] 57)) (p := ⟨w.heap.size + 1, 4, none⟩) (by rw [size_alloc, size_alloc]; simp only []; omega)).trans (by have b := boxed (w := w.alloc (Obj.cells A.toArray 121)) (cs := #[.string ⟨s.toArray⟩, .int .i64 10, .int .i64 c, .int .i64 f3, .int .i64 f7, .int .i64 sh]) (t := 57) (Below.refl _ _) 4; rw [size_alloc] at b; exact b)), (R3.out.on hb).there⟩)
  have KT := Lib.hid (show ∀ W', (fun W : World => W.rangeAt w.heap.size 0 A ∧ W.cell? ⟨w.heap.size + 1, 4, none⟩ = some (.int .i64 f7) ∧ W.there (w.heap.size + 1 + 1) 0 32) W' → (fun W : World => W.rangeAt w.heap.size 0 A ∧ W.cell? ⟨w.heap.size + 1, 4, none⟩ = some (.int .i64 f7) ∧ W.there (w.heap.size + 1 + 1) 0 32) (W'.setCells (w.heap.size + 1 + 1) 0 A2) from fun W' h => ⟨World.rangeAt_setCells_apart h.1 _ _ _ (.inl (by omega)), (World.cell?_setCells_out _ _ _ _ _ (fun hb _ => absurd hb (by simp))).trans h.2.1, World.there_setCells h.2.2 _ _ _⟩)
  have hu := Tryz.underlying121
  have hsA := HS.out
  have hsE := SE.out
  have hlE := LE.out
  have hoE := OE.out
  first
    | (go_region_held3 (fun W : World => W.rangeAt w.heap.size 0 A ∧ W.cell? ⟨w.heap.size + 1, 4, none⟩ = some (.int .i64 f7) ∧ W.there (w.heap.size + 1 + 1) 0 32)
    (first
      | (refine KS.out _ ?_; first | (with_reducible exact HB2.out) | (with_reducible exact HB1.out) | (with_reducible exact Below.refl _ _) | (with_reducible exact Below.drew (Below.refl _ _)))
      | (refine KT.out _ ?_; assumption))
    (first
      | (go_at_call_of 74 (Value.agg A.toArray); refine (L0.out _).mono ?_; rintro e w1 ⟨rfl, hb⟩; have HB1 := Lib.hid (undrew hb); clear hb)
      | (go_at_call_of 74 (Value.agg A1.toArray); refine (L1.out _).mono ?_; rintro e w2 ⟨rfl, hb⟩; have HB2 := Lib.hid (bTrans HB1.out hb); clear hb)))
    | fail "no"
  all_goals (go_wp2_with fail)
  all_goals (refine bodyPost_ret (v := .agg A2.toArray) ?_ rfl ⟨rfl, ?_⟩)
  all_goals first
    | exact below_setCells _ (by omega) _ _ _ (bTrans Q3.out HB2.out)
    | (refine results_cell_mid Tryz.results75 _ _ (w.heap.size + 1 + 1) A2 (.array 32 3) rfl ?_ Tryz.underlying121 rfl SE.out; exact World.rangeAt_setCells_same _ _ _ _ (by rw [LE.out]; exact (R3.out.on HB2.out).there))
set_option maxRecDepth 100000 in
theorem rest9 (s : List UInt8) (c f3 f7 sh n : Int) (N M1 : Nat) (l0 : Lay N M1 0 12 20 f7) : Rest N M1 s 9 c f3 f7 sh n := by
  intro w
  have hx0 := Box32.new w N 121
  have hsz := wordSize N
  have hsE := wordSize M1
  have hlE := bitsL_len M1
  have hoE := bitsL_one M1
  unfold Lay wordV at l0
  unfold wordV operV
  obtain ⟨A, hA⟩ : ∃ A, bitsL N = A := ⟨_, rfl⟩
  rw [hA] at hx0 hsz l0 ⊢
  obtain ⟨A1, hA1⟩ : ∃ A, bitsL M1 = A := ⟨_, rfl⟩
  rw [hA1] at l0 hsE hlE hoE ⊢
  have L0 := Lib.hid l0
  have W3 : Box32 (((w.alloc (Obj.cells A.toArray 121)).alloc (Obj.cells #[.string ⟨s.toArray⟩, .int .i64 9, .int .i64 c, .int .i64 f3, .int .i64 f7, .int .i64 sh] 57)).alloc (Obj.cells #[.int .i64 0, .int .i64 0, .int .i64 0, .int .i64 0, .int .i64 0, .int .i64 0, .int .i64 0, .int .i64 0, .int .i64 0, .int .i64 0, .int .i64 0, .int .i64 0, .int .i64 0, .int .i64 0, .int .i64 0, .int .i64 0, .int .i64 0, .int .i64 0, .int .i64 0, .int .i64 0, .int .i64 0, .int .i64 0, .int .i64 0, .int .i64 0, .int .i64 0, .int .i64 0, .int .i64 0, .int .i64 0, .int .i64 0, .int .i64 0, .int .i64 0, .int .i64 0] 121)) ((w.alloc (Obj.cells A.toArray 121)).alloc (Obj.cells #[.string ⟨s.toArray⟩, .int .i64 9, .int .i64 c, .int .i64 f3, .int .i64 f7, .int .i64 sh] 57)).heap.size 0 := (Box32.new ((w.alloc (Obj.cells A.toArray 121)).alloc (Obj.cells #[.string ⟨s.toArray⟩, .int .i64 9, .int .i64 c, .int .i64 f3, .int .i64 f7, .int .i64 sh] 57)) 0 121)
  rw [show ((w.alloc (Obj.cells A.toArray 121)).alloc (Obj.cells #[.string ⟨s.toArray⟩, .int .i64 9, .int .i64 c, .int .i64 f3, .int .i64 f7, .int .i64 sh] 57)).heap.size = w.heap.size + 1 + 1 by rw [size_alloc, size_alloc]] at W3
  have X3 := Lib.hid ((hx0.on (bAlloc (Below.refl _ _) (Obj.cells #[.string ⟨s.toArray⟩, .int .i64 9, .int .i64 c, .int .i64 f3, .int .i64 f7, .int .i64 sh] 57))).on (bAlloc (Below.refl _ _) (Obj.cells #[.int .i64 0, .int .i64 0, .int .i64 0, .int .i64 0, .int .i64 0, .int .i64 0, .int .i64 0, .int .i64 0, .int .i64 0, .int .i64 0, .int .i64 0, .int .i64 0, .int .i64 0, .int .i64 0, .int .i64 0, .int .i64 0, .int .i64 0, .int .i64 0, .int .i64 0, .int .i64 0, .int .i64 0, .int .i64 0, .int .i64 0, .int .i64 0, .int .i64 0, .int .i64 0, .int .i64 0, .int .i64 0, .int .i64 0, .int .i64 0, .int .i64 0, .int .i64 0] 121)))
  have R3 := Lib.hid W3
  have HA := Lib.hid hA
  have HS := Lib.hid hsz
  have SE := Lib.hid hsE
  have LE := Lib.hid hlE
  have OE := Lib.hid hoE
  have Q3 := Lib.hid (show Below w.heap.size w ((((w.alloc (Obj.cells A.toArray 121)).alloc (Obj.cells #[.string ⟨s.toArray⟩, .int .i64 9, .int .i64 c, .int .i64 f3, .int .i64 f7, .int .i64 sh] 57)).alloc (Obj.cells #[.int .i64 0, .int .i64 0, .int .i64 0, .int .i64 0, .int .i64 0, .int .i64 0, .int .i64 0, .int .i64 0, .int .i64 0, .int .i64 0, .int .i64 0, .int .i64 0, .int .i64 0, .int .i64 0, .int .i64 0, .int .i64 0, .int .i64 0, .int .i64 0, .int .i64 0, .int .i64 0, .int .i64 0, .int .i64 0, .int .i64 0, .int .i64 0, .int .i64 0, .int .i64 0, .int .i64 0, .int .i64 0, .int .i64 0, .int .i64 0, .int .i64 0, .int .i64 0] 121))) from bAlloc (bAlloc (bAlloc (Below.refl _ _) _) _) _)
  clear hx0 hsz hsE hlE hoE W3 hA hA1 l0
  go_enter Tryz.func75, Tryz.ntmps75
  go_upto_region 23 with fail
  apply wp_region_lit
  refine wpList_load_mid rfl _ _ rfl w.heap.size 0 rfl A (.array 32 3) (HA.out ▸ X3.out.range) Tryz.underlying121 rfl HS.out ?_
  go_wp2_with fail
  refine (L0.out _).mono ?_; rintro e w1 ⟨rfl, q1⟩
  have R10 := Lib.hid (R3.out.on q1); have Q10 := Lib.hid (bTrans Q3.out q1); clear q1
  simp only []
  go_at_K
  rename_i hK
  refine hK _ _ ?_
  clear hK
  refine wpList_store_mid rfl _ _ _ rfl (w.heap.size + 1 + 1) 0 A1.toArray rfl rfl ?_ ?_ (all_oneCell_toArray OE.out) ?_
  · have h : A1.toArray.size = 32 := by rw [List.size_toArray]; exact LE.out
    rw [h]; exact R10.out.there
  · have h : A1.toArray.size = A1.length := by rw [List.size_toArray]
    rw [h]; exact SE.out
  go_wp2_with fail
  refine bodyPost_ret (v := .agg A1.toArray) ?_ rfl ⟨rfl, ?_⟩
  · refine results_cell_mid Tryz.results75 _ _ (w.heap.size + 1 + 1) A1 (.array 32 3) rfl ?_ Tryz.underlying121 rfl SE.out
    exact World.rangeAt_setCells_same _ _ _ _ (by rw [LE.out]; exact R10.out.there)
  · exact below_setCells _ (by omega) _ _ _ Q10.out
end Go.Proofs.YtegoddghfjfibaaGreatDoor.Is

