/- CuI -/
import Derived.Test.YtegoddghfjfibaaGreatDoorZ25
namespace Go.Proofs.YtegoddghfjfibaaGreatDoor
set_option linter.unusedVariables false
set_option linter.unusedSimpArgs false
open Go.Joins Go.ChangeShapes Go.WideShapes Go.ChangeAt Go.RowKit Go.Deep

set_option maxHeartbeats 2000000 in
theorem inv_1 (W : World) (A : Nat) (cb ct ca cp cy vb vt va vp vy : Int) (vg : Bool) :
    Calls Tryz.prog 98 #[.pointer (some ⟨A, 0, none⟩), .agg #[.int .u64 cb, .int .u64 ct, .int .u64 ca, .int .i64 cp, .int .i64 cy, .bool false], .agg #[.int .u64 vb, .int .u64 vt, .int .u64 va, .int .i64 vp, .int .i64 vy, .bool vg]] W fun e w' => e = .returned (.tuple #[.agg zer6, .int .i64 20]) ∧ Below W.heap.size W w' := by
  obtain ⟨b1, b2, b3, b4, b5⟩ := boxes3 W #[.int .u64 cb, .int .u64 ct, .int .u64 ca, .int .i64 cp, .int .i64 cy, .bool false] #[.int .u64 vb, .int .u64 vt, .int .u64 va, .int .i64 vp, .int .i64 vy, .bool vg] zer6 24 24 24
  obtain ⟨W0, hW0⟩ : ∃ W0, ((W.alloc (.cells #[.int .u64 cb, .int .u64 ct, .int .u64 ca, .int .i64 cp, .int .i64 cy, .bool false] 24)).alloc (.cells #[.int .u64 vb, .int .u64 vt, .int .u64 va, .int .i64 vp, .int .i64 vy, .bool vg] 24)).alloc (.cells zer6 24) = W0 := ⟨_, rfl⟩
  rw [hW0] at b1 b2 b3 b4 b5
  have HW0 := Lib.hid hW0
  have HB := Lib.hid b1
  obtain ⟨⟨c0, c1, c2, c3, c4, c5⟩, -⟩ := boxN6 b2
  obtain ⟨⟨e0, e1, e2, e3, e4, e5⟩, -⟩ := boxN6 b3
  obtain ⟨⟨i0, i1, i2, i3, i4, i5⟩, j0, j1, j2, j3, j4, j5⟩ := boxN6 b4
  clear hW0 b1 b2 b3 b4 b5
  go_enter Tryz.func98, Tryz.ntmps98
  go_upto_region 1 with fail
  (try rw [HW0.out])
  clear HW0
  go_wp2_with fail
  exact bodyPost_ret (v := .tuple #[.agg zer6, .int .i64 20]) (by simp [results, Tryz.results98, go_sem, *]) rfl ⟨rfl, below_set6 HB.out (show W.heap.size ≤ W.heap.size + 2 by omega)⟩
set_option maxHeartbeats 2000000 in
theorem inv_2 (W : World) (A : Nat) (cb ct ca cp cy vb vt va vp vy : Int)  :
    Calls Tryz.prog 98 #[.pointer (some ⟨A, 0, none⟩), .agg #[.int .u64 cb, .int .u64 ct, .int .u64 ca, .int .i64 cp, .int .i64 cy, .bool true], .agg #[.int .u64 vb, .int .u64 vt, .int .u64 va, .int .i64 vp, .int .i64 vy, .bool false]] W fun e w' => e = .returned (.tuple #[.agg zer6, .int .i64 20]) ∧ Below W.heap.size W w' := by
  obtain ⟨b1, b2, b3, b4, b5⟩ := boxes3 W #[.int .u64 cb, .int .u64 ct, .int .u64 ca, .int .i64 cp, .int .i64 cy, .bool true] #[.int .u64 vb, .int .u64 vt, .int .u64 va, .int .i64 vp, .int .i64 vy, .bool false] zer6 24 24 24
  obtain ⟨W0, hW0⟩ : ∃ W0, ((W.alloc (.cells #[.int .u64 cb, .int .u64 ct, .int .u64 ca, .int .i64 cp, .int .i64 cy, .bool true] 24)).alloc (.cells #[.int .u64 vb, .int .u64 vt, .int .u64 va, .int .i64 vp, .int .i64 vy, .bool false] 24)).alloc (.cells zer6 24) = W0 := ⟨_, rfl⟩
  rw [hW0] at b1 b2 b3 b4 b5
  have HW0 := Lib.hid hW0
  have HB := Lib.hid b1
  obtain ⟨⟨c0, c1, c2, c3, c4, c5⟩, -⟩ := boxN6 b2
  obtain ⟨⟨e0, e1, e2, e3, e4, e5⟩, -⟩ := boxN6 b3
  obtain ⟨⟨i0, i1, i2, i3, i4, i5⟩, j0, j1, j2, j3, j4, j5⟩ := boxN6 b4
  clear hW0 b1 b2 b3 b4 b5
  go_enter Tryz.func98, Tryz.ntmps98
  go_upto_region 1 with fail
  (try rw [HW0.out])
  clear HW0
  go_wp2_with fail
  exact bodyPost_ret (v := .tuple #[.agg zer6, .int .i64 20]) (by simp [results, Tryz.results98, go_sem, *]) rfl ⟨rfl, below_set6 HB.out (show W.heap.size ≤ W.heap.size + 2 by omega)⟩
set_option maxHeartbeats 2000000 in
theorem inv_3 (W : World) (A : Nat) (cb ct ca cp cy vb vt va vp vy : Int) (h0 : cy < 0) :
    Calls Tryz.prog 98 #[.pointer (some ⟨A, 0, none⟩), .agg #[.int .u64 cb, .int .u64 ct, .int .u64 ca, .int .i64 cp, .int .i64 cy, .bool true], .agg #[.int .u64 vb, .int .u64 vt, .int .u64 va, .int .i64 vp, .int .i64 vy, .bool true]] W fun e w' => e = .returned (.tuple #[.agg zer6, .int .i64 21]) ∧ Below W.heap.size W w' := by
  obtain ⟨b1, b2, b3, b4, b5⟩ := boxes3 W #[.int .u64 cb, .int .u64 ct, .int .u64 ca, .int .i64 cp, .int .i64 cy, .bool true] #[.int .u64 vb, .int .u64 vt, .int .u64 va, .int .i64 vp, .int .i64 vy, .bool true] zer6 24 24 24
  obtain ⟨W0, hW0⟩ : ∃ W0, ((W.alloc (.cells #[.int .u64 cb, .int .u64 ct, .int .u64 ca, .int .i64 cp, .int .i64 cy, .bool true] 24)).alloc (.cells #[.int .u64 vb, .int .u64 vt, .int .u64 va, .int .i64 vp, .int .i64 vy, .bool true] 24)).alloc (.cells zer6 24) = W0 := ⟨_, rfl⟩
  rw [hW0] at b1 b2 b3 b4 b5
  have HW0 := Lib.hid hW0
  have HB := Lib.hid b1
  obtain ⟨⟨c0, c1, c2, c3, c4, c5⟩, -⟩ := boxN6 b2
  obtain ⟨⟨e0, e1, e2, e3, e4, e5⟩, -⟩ := boxN6 b3
  obtain ⟨⟨i0, i1, i2, i3, i4, i5⟩, j0, j1, j2, j3, j4, j5⟩ := boxN6 b4
  have d1 : decide (cy < 0) = true := decide_eq_true h0
  clear h0
  clear hW0 b1 b2 b3 b4 b5
  go_enter Tryz.func98, Tryz.ntmps98
  go_upto_region 1 with fail
  (try rw [HW0.out])
  clear HW0
  go_wp2_with fail
  exact bodyPost_ret (v := .tuple #[.agg zer6, .int .i64 21]) (by simp [results, Tryz.results98, go_sem, *]) rfl ⟨rfl, below_set6 HB.out (show W.heap.size ≤ W.heap.size + 2 by omega)⟩
set_option maxHeartbeats 2000000 in
theorem inv_4 (W : World) (A : Nat) (cb ct ca cp cy vb vt va vp vy : Int) (h0 : 0 ≤ cy) (h1 : vy < 0) :
    Calls Tryz.prog 98 #[.pointer (some ⟨A, 0, none⟩), .agg #[.int .u64 cb, .int .u64 ct, .int .u64 ca, .int .i64 cp, .int .i64 cy, .bool true], .agg #[.int .u64 vb, .int .u64 vt, .int .u64 va, .int .i64 vp, .int .i64 vy, .bool true]] W fun e w' => e = .returned (.tuple #[.agg zer6, .int .i64 21]) ∧ Below W.heap.size W w' := by
  obtain ⟨b1, b2, b3, b4, b5⟩ := boxes3 W #[.int .u64 cb, .int .u64 ct, .int .u64 ca, .int .i64 cp, .int .i64 cy, .bool true] #[.int .u64 vb, .int .u64 vt, .int .u64 va, .int .i64 vp, .int .i64 vy, .bool true] zer6 24 24 24
  obtain ⟨W0, hW0⟩ : ∃ W0, ((W.alloc (.cells #[.int .u64 cb, .int .u64 ct, .int .u64 ca, .int .i64 cp, .int .i64 cy, .bool true] 24)).alloc (.cells #[.int .u64 vb, .int .u64 vt, .int .u64 va, .int .i64 vp, .int .i64 vy, .bool true] 24)).alloc (.cells zer6 24) = W0 := ⟨_, rfl⟩
  rw [hW0] at b1 b2 b3 b4 b5
  have HW0 := Lib.hid hW0
  have HB := Lib.hid b1
  obtain ⟨⟨c0, c1, c2, c3, c4, c5⟩, -⟩ := boxN6 b2
  obtain ⟨⟨e0, e1, e2, e3, e4, e5⟩, -⟩ := boxN6 b3
  obtain ⟨⟨i0, i1, i2, i3, i4, i5⟩, j0, j1, j2, j3, j4, j5⟩ := boxN6 b4
  have d1 : decide (cy < 0) = false := decide_eq_false (by omega)
  have d2 : decide (vy < 0) = true := decide_eq_true h1
  clear h0 h1
  clear hW0 b1 b2 b3 b4 b5
  go_enter Tryz.func98, Tryz.ntmps98
  go_upto_region 1 with fail
  (try rw [HW0.out])
  clear HW0
  go_wp2_with fail
  exact bodyPost_ret (v := .tuple #[.agg zer6, .int .i64 21]) (by simp [results, Tryz.results98, go_sem, *]) rfl ⟨rfl, below_set6 HB.out (show W.heap.size ≤ W.heap.size + 2 by omega)⟩
set_option maxHeartbeats 2000000 in
theorem inv_5 (W : World) (A : Nat) (cb ct ca cp cy vb vt va vp vy : Int) (h0 : 0 ≤ cy) (h1 : 0 ≤ vy) (h2 : cy ≠ vy) :
    Calls Tryz.prog 98 #[.pointer (some ⟨A, 0, none⟩), .agg #[.int .u64 cb, .int .u64 ct, .int .u64 ca, .int .i64 cp, .int .i64 cy, .bool true], .agg #[.int .u64 vb, .int .u64 vt, .int .u64 va, .int .i64 vp, .int .i64 vy, .bool true]] W fun e w' => e = .returned (.tuple #[.agg zer6, .int .i64 62]) ∧ Below W.heap.size W w' := by
  obtain ⟨b1, b2, b3, b4, b5⟩ := boxes3 W #[.int .u64 cb, .int .u64 ct, .int .u64 ca, .int .i64 cp, .int .i64 cy, .bool true] #[.int .u64 vb, .int .u64 vt, .int .u64 va, .int .i64 vp, .int .i64 vy, .bool true] zer6 24 24 24
  obtain ⟨W0, hW0⟩ : ∃ W0, ((W.alloc (.cells #[.int .u64 cb, .int .u64 ct, .int .u64 ca, .int .i64 cp, .int .i64 cy, .bool true] 24)).alloc (.cells #[.int .u64 vb, .int .u64 vt, .int .u64 va, .int .i64 vp, .int .i64 vy, .bool true] 24)).alloc (.cells zer6 24) = W0 := ⟨_, rfl⟩
  rw [hW0] at b1 b2 b3 b4 b5
  have HW0 := Lib.hid hW0
  have HB := Lib.hid b1
  obtain ⟨⟨c0, c1, c2, c3, c4, c5⟩, -⟩ := boxN6 b2
  obtain ⟨⟨e0, e1, e2, e3, e4, e5⟩, -⟩ := boxN6 b3
  obtain ⟨⟨i0, i1, i2, i3, i4, i5⟩, j0, j1, j2, j3, j4, j5⟩ := boxN6 b4
  have d1 : decide (cy < 0) = false := decide_eq_false (by omega)
  have d2 : decide (vy < 0) = false := decide_eq_false (by omega)
  have d3 : (cy == vy) = false := by simpa using h2
  have d4 : (cy != vy) = true := by simpa using h2
  clear h0 h1 h2
  clear hW0 b1 b2 b3 b4 b5
  go_enter Tryz.func98, Tryz.ntmps98
  go_upto_region 1 with fail
  (try rw [HW0.out])
  clear HW0
  go_wp2_with fail
  exact bodyPost_ret (v := .tuple #[.agg zer6, .int .i64 62]) (by simp [results, Tryz.results98, go_sem, *]) rfl ⟨rfl, below_set6 HB.out (show W.heap.size ≤ W.heap.size + 2 by omega)⟩
set_option maxHeartbeats 2000000 in
theorem inv_6 (W : World) (A : Nat) (cb ct ca cp cy vb vt va vp vy : Int) (h0 : 0 ≤ cy) (h1 : 0 ≤ vy) (h2 : cy = vy) (h3 : bits .and .i64 (bits .and .i64 cp vp) 128 = 0) :
    Calls Tryz.prog 98 #[.pointer (some ⟨A, 0, none⟩), .agg #[.int .u64 cb, .int .u64 ct, .int .u64 ca, .int .i64 cp, .int .i64 cy, .bool true], .agg #[.int .u64 vb, .int .u64 vt, .int .u64 va, .int .i64 vp, .int .i64 vy, .bool true]] W fun e w' => e = .returned (.tuple #[.agg zer6, .int .i64 22]) ∧ Below W.heap.size W w' := by
  obtain ⟨b1, b2, b3, b4, b5⟩ := boxes3 W #[.int .u64 cb, .int .u64 ct, .int .u64 ca, .int .i64 cp, .int .i64 cy, .bool true] #[.int .u64 vb, .int .u64 vt, .int .u64 va, .int .i64 vp, .int .i64 vy, .bool true] zer6 24 24 24
  obtain ⟨W0, hW0⟩ : ∃ W0, ((W.alloc (.cells #[.int .u64 cb, .int .u64 ct, .int .u64 ca, .int .i64 cp, .int .i64 cy, .bool true] 24)).alloc (.cells #[.int .u64 vb, .int .u64 vt, .int .u64 va, .int .i64 vp, .int .i64 vy, .bool true] 24)).alloc (.cells zer6 24) = W0 := ⟨_, rfl⟩
  rw [hW0] at b1 b2 b3 b4 b5
  have HW0 := Lib.hid hW0
  have HB := Lib.hid b1
  obtain ⟨⟨c0, c1, c2, c3, c4, c5⟩, -⟩ := boxN6 b2
  obtain ⟨⟨e0, e1, e2, e3, e4, e5⟩, -⟩ := boxN6 b3
  obtain ⟨⟨i0, i1, i2, i3, i4, i5⟩, j0, j1, j2, j3, j4, j5⟩ := boxN6 b4
  have d1 : decide (cy < 0) = false := decide_eq_false (by omega)
  have d2 : decide (vy < 0) = false := decide_eq_false (by omega)
  have d3 : (cy == vy) = true := by simpa using h2
  have d4 : (cy != vy) = false := by simpa using h2
  have d5 : (bits .and .i64 (bits .and .i64 cp vp) 128 == 0) = true := by simpa using h3
  clear h0 h1 h2 h3
  clear hW0 b1 b2 b3 b4 b5
  go_enter Tryz.func98, Tryz.ntmps98
  go_upto_region 1 with fail
  (try rw [HW0.out])
  clear HW0
  go_wp2_with fail
  exact bodyPost_ret (v := .tuple #[.agg zer6, .int .i64 22]) (by simp [results, Tryz.results98, go_sem, *]) rfl ⟨rfl, below_set6 HB.out (show W.heap.size ≤ W.heap.size + 2 by omega)⟩
set_option maxHeartbeats 2000000 in
theorem inv_7 (W : World) (A : Nat) (cb ct ca cp cy vb vt va vp vy : Int) (h0 : 0 ≤ cy) (h1 : 0 ≤ vy) (h2 : cy = vy) (h3 : bits .and .i64 (bits .and .i64 cp vp) 128 ≠ 0) (h4 : bits .and .i64 cp 4 = 0) :
    Calls Tryz.prog 98 #[.pointer (some ⟨A, 0, none⟩), .agg #[.int .u64 cb, .int .u64 ct, .int .u64 ca, .int .i64 cp, .int .i64 cy, .bool true], .agg #[.int .u64 vb, .int .u64 vt, .int .u64 va, .int .i64 vp, .int .i64 vy, .bool true]] W fun e w' => e = .returned (.tuple #[.agg zer6, .int .i64 22]) ∧ Below W.heap.size W w' := by
  obtain ⟨b1, b2, b3, b4, b5⟩ := boxes3 W #[.int .u64 cb, .int .u64 ct, .int .u64 ca, .int .i64 cp, .int .i64 cy, .bool true] #[.int .u64 vb, .int .u64 vt, .int .u64 va, .int .i64 vp, .int .i64 vy, .bool true] zer6 24 24 24
  obtain ⟨W0, hW0⟩ : ∃ W0, ((W.alloc (.cells #[.int .u64 cb, .int .u64 ct, .int .u64 ca, .int .i64 cp, .int .i64 cy, .bool true] 24)).alloc (.cells #[.int .u64 vb, .int .u64 vt, .int .u64 va, .int .i64 vp, .int .i64 vy, .bool true] 24)).alloc (.cells zer6 24) = W0 := ⟨_, rfl⟩
  rw [hW0] at b1 b2 b3 b4 b5
  have HW0 := Lib.hid hW0
  have HB := Lib.hid b1
  obtain ⟨⟨c0, c1, c2, c3, c4, c5⟩, -⟩ := boxN6 b2
  obtain ⟨⟨e0, e1, e2, e3, e4, e5⟩, -⟩ := boxN6 b3
  obtain ⟨⟨i0, i1, i2, i3, i4, i5⟩, j0, j1, j2, j3, j4, j5⟩ := boxN6 b4
  have d1 : decide (cy < 0) = false := decide_eq_false (by omega)
  have d2 : decide (vy < 0) = false := decide_eq_false (by omega)
  have d3 : (cy == vy) = true := by simpa using h2
  have d4 : (cy != vy) = false := by simpa using h2
  have d5 : (bits .and .i64 (bits .and .i64 cp vp) 128 == 0) = false := by simpa using h3
  have d6 : (bits .and .i64 cp 4 == 0) = true := by simpa using h4
  clear h0 h1 h2 h3 h4
  clear hW0 b1 b2 b3 b4 b5
  go_enter Tryz.func98, Tryz.ntmps98
  go_upto_region 1 with fail
  (try rw [HW0.out])
  clear HW0
  go_wp2_with fail
  exact bodyPost_ret (v := .tuple #[.agg zer6, .int .i64 22]) (by simp [results, Tryz.results98, go_sem, *]) rfl ⟨rfl, below_set6 HB.out (show W.heap.size ≤ W.heap.size + 2 by omega)⟩
set_option maxHeartbeats 2000000 in
theorem inv_8 (W : World) (A : Nat) (cb ct ca cp cy vb vt va vp vy : Int) (h0 : 0 ≤ cy) (h1 : 0 ≤ vy) (h2 : cy = vy) (h3 : bits .and .i64 (bits .and .i64 cp vp) 128 ≠ 0) (h4 : bits .and .i64 cp 4 ≠ 0) (h5 : bits .and .i64 vp 4 ≠ 0) :
    Calls Tryz.prog 98 #[.pointer (some ⟨A, 0, none⟩), .agg #[.int .u64 cb, .int .u64 ct, .int .u64 ca, .int .i64 cp, .int .i64 cy, .bool true], .agg #[.int .u64 vb, .int .u64 vt, .int .u64 va, .int .i64 vp, .int .i64 vy, .bool true]] W fun e w' => e = .returned (.tuple #[.agg zer6, .int .i64 22]) ∧ Below W.heap.size W w' := by
  obtain ⟨b1, b2, b3, b4, b5⟩ := boxes3 W #[.int .u64 cb, .int .u64 ct, .int .u64 ca, .int .i64 cp, .int .i64 cy, .bool true] #[.int .u64 vb, .int .u64 vt, .int .u64 va, .int .i64 vp, .int .i64 vy, .bool true] zer6 24 24 24
  obtain ⟨W0, hW0⟩ : ∃ W0, ((W.alloc (.cells #[.int .u64 cb, .int .u64 ct, .int .u64 ca, .int .i64 cp, .int .i64 cy, .bool true] 24)).alloc (.cells #[.int .u64 vb, .int .u64 vt, .int .u64 va, .int .i64 vp, .int .i64 vy, .bool true] 24)).alloc (.cells zer6 24) = W0 := ⟨_, rfl⟩
  rw [hW0] at b1 b2 b3 b4 b5
  have HW0 := Lib.hid hW0
  have HB := Lib.hid b1
  obtain ⟨⟨c0, c1, c2, c3, c4, c5⟩, -⟩ := boxN6 b2
  obtain ⟨⟨e0, e1, e2, e3, e4, e5⟩, -⟩ := boxN6 b3
  obtain ⟨⟨i0, i1, i2, i3, i4, i5⟩, j0, j1, j2, j3, j4, j5⟩ := boxN6 b4
  have d1 : decide (cy < 0) = false := decide_eq_false (by omega)
  have d2 : decide (vy < 0) = false := decide_eq_false (by omega)
  have d3 : (cy == vy) = true := by simpa using h2
  have d4 : (cy != vy) = false := by simpa using h2
  have d5 : (bits .and .i64 (bits .and .i64 cp vp) 128 == 0) = false := by simpa using h3
  have d6 : (bits .and .i64 cp 4 == 0) = false := by simpa using h4
  have d7 : (bits .and .i64 vp 4 != 0) = true := by simpa using h5
  have d8 : (bits .and .i64 vp 4 == 0) = false := by simpa using h5
  clear h0 h1 h2 h3 h4 h5
  clear hW0 b1 b2 b3 b4 b5
  go_enter Tryz.func98, Tryz.ntmps98
  go_upto_region 1 with fail
  (try rw [HW0.out])
  clear HW0
  go_wp2_with fail
  exact bodyPost_ret (v := .tuple #[.agg zer6, .int .i64 22]) (by simp [results, Tryz.results98, go_sem, *]) rfl ⟨rfl, below_set6 HB.out (show W.heap.size ≤ W.heap.size + 2 by omega)⟩
set_option maxRecDepth 100000 in
set_option maxHeartbeats 4000000 in
theorem inv_go (W : World) (N A M : Nat) (F : Nat → Prop) (s : Mch) (h : McS W N A M F s) (cb ct ca cp cy vb vt va vp vy : Int) (hv : FitC ⟨vb, vt, va, vp, -1, true⟩) (h0 : 0 ≤ cy) (h1 : 0 ≤ vy) (h2 : cy = vy) (h3 : bits .and .i64 (bits .and .i64 cp vp) 128 ≠ 0) (h4 : bits .and .i64 cp 4 ≠ 0) (h5 : bits .and .i64 vp 4 = 0) :
    Calls Tryz.prog 98 #[.pointer (some ⟨A, 0, none⟩), .agg #[.int .u64 cb, .int .u64 ct, .int .u64 ca, .int .i64 cp, .int .i64 cy, .bool true], .agg #[.int .u64 vb, .int .u64 vt, .int .u64 va, .int .i64 vp, .int .i64 vy, .bool true]] W fun e w' => e = .returned (.tuple #[.agg #[.int .u64 cb, .int .u64 ct, .int .u64 ca, .int .i64 cp, .int .i64 (-1), .bool true], .int .i64 0]) ∧ McS w' N A M F ⟨s.pc, putP s.rs 31 ⟨vb, vt, va, vp, -1, true⟩, s.m⟩ ∧ McMv W w' F F A := by
  obtain ⟨b1, b2, b3, b4, b5⟩ := boxes3 W #[.int .u64 cb, .int .u64 ct, .int .u64 ca, .int .i64 cp, .int .i64 cy, .bool true] #[.int .u64 vb, .int .u64 vt, .int .u64 va, .int .i64 vp, .int .i64 vy, .bool true] zer6 24 24 24
  obtain ⟨W0, hW0⟩ : ∃ W0, ((W.alloc (.cells #[.int .u64 cb, .int .u64 ct, .int .u64 ca, .int .i64 cp, .int .i64 cy, .bool true] 24)).alloc (.cells #[.int .u64 vb, .int .u64 vt, .int .u64 va, .int .i64 vp, .int .i64 vy, .bool true] 24)).alloc (.cells zer6 24) = W0 := ⟨_, rfl⟩
  rw [hW0] at b1 b2 b3 b4 b5
  have HWR := Lib.hid (fun (w : World) (hb : Below W.heap.size W w) => mwrite_any w A M s.pc s.rs (h.mc.below hb) 31 (by decide) ⟨vb, vt, va, vp, -1, true⟩)
  unfold capC at HWR
  simp only [] at HWR
  have HFT := Lib.hid (And.intro h.fpc (putP_fit h.frs 31 hv))
  have HNU := Lib.hid (fun w => cnull_any w)
  unfold nullC capC at HNU
  simp only [] at HNU
  have HW0 := Lib.hid hW0
  have HB := Lib.hid b1
  have HX := Lib.hid b2
  have HY := Lib.hid b3
  have HZ := Lib.hid b4
  have HM := Lib.hid h
  have d1 : decide (cy < 0) = false := decide_eq_false (by omega)
  have d2 : decide (vy < 0) = false := decide_eq_false (by omega)
  have d3 : (cy == vy) = true := by simpa using h2
  have d4 : (cy != vy) = false := by simpa using h2
  have d5 : (bits .and .i64 (bits .and .i64 cp vp) 128 == 0) = false := by simpa using h3
  have d6 : (bits .and .i64 cp 4 == 0) = false := by simpa using h4
  have d7 : (bits .and .i64 vp 4 != 0) = false := by simpa using h5
  have d8 : (bits .and .i64 vp 4 == 0) = true := by simpa using h5
  obtain ⟨⟨c0, c1, c2, c3, c4, c5⟩, -⟩ := boxN6 b2
  obtain ⟨⟨e0, e1, e2, e3, e4, e5⟩, -⟩ := boxN6 b3
  clear hW0 b1 b2 b3 b4 b5 h hv h0 h1 h2 h3 h4 h5
  have hfd : ∀ Wx : World, (Instr.field 24 (.agg #[.int .u64 0, .int .u64 0, .int .u64 0, .int .i64 0, .int .i64 (-1), .bool false]) 4).run Tryz.prog Wx = .ok (.int .i64 (-1)) Wx := fun Wx => by kernel_rfl
  go_enter Tryz.func98, Tryz.ntmps98
  go_upto_region 1 with fail
  (try rw [HW0.out])
  clear HW0
  go_wp2_with fail
  refine (HNU.out W0).mono ?_; rintro e w1 ⟨rfl, hb1⟩
  go_wp2_with fail
  refine (HNU.out w1).mono ?_; rintro e w2 ⟨rfl, hb2⟩
  have hb12 : Below W0.heap.size W0 w2 := hb1.trans (hb2.mono hb1.size)
  have HB2 := Lib.hid (HB.out.trans (hb12.mono HB.out.size))
  have hx2 := boxN_below HX.out hb12
  have hy2 := boxN_below HY.out hb12
  have hz2 := boxN_below HZ.out hb12
  clear hb1 hb2 hb12 c0 c1 c2 c3 c4 c5 e0 e1 e2 e3 e4 e5 d1 d2 d3 d4 d5 d6 d7 d8 HNU
  have c4 : w2.cell? ⟨W.heap.size, 4, none⟩ = some (.int .i64 cy) := hx2.cell 4
  have c4f : w2.frozen? ⟨W.heap.size, 4, none⟩ = false := hx2.frozen 4
  have e4 : w2.cell? ⟨W.heap.size + 1, 4, none⟩ = some (.int .i64 vy) := hy2.cell 4
  have e4f : w2.frozen? ⟨W.heap.size + 1, 4, none⟩ = false := hy2.frozen 4
  go_upto_region 10 with fail
  obtain ⟨w3, hw3⟩ : ∃ w3, (w2.setCell ⟨W.heap.size, 4, none⟩ (.int .i64 (-1))).setCell ⟨W.heap.size + 1, 4, none⟩ (.int .i64 (-1)) = w3 := ⟨_, rfl⟩
  have hk3 : KP W.heap.size (fun b => False) W w3 := by
    rw [← hw3]
    exact ((KP.of_below (fun _ => False) HB2.out).set ⟨W.heap.size, 4, none⟩ (Or.inl (Nat.le_refl _)) _).set ⟨W.heap.size + 1, 4, none⟩ (Or.inl (Nat.le_succ _)) _
  have HB3 : Hid (Below W.heap.size W w3) := Lib.hid (hk3.to_below (Nat.le_refl _) (fun _ _ q => q))
  have hx3 : BoxN w3 W.heap.size #[.int .u64 cb, .int .u64 ct, .int .u64 ca, .int .i64 cp, .int .i64 (-1), .bool true] := by
    rw [← hw3]
    have q := hx2.set 4 (.int .i64 (-1))
    exact q.kp (KP.set1 _ (W.heap.size + 1) 4 _) q.lt (by omega)
  have hy3 : BoxN w3 (W.heap.size + 1) #[.int .u64 vb, .int .u64 vt, .int .u64 va, .int .i64 vp, .int .i64 (-1), .bool true] := by
    rw [← hw3]
    have q : BoxN (w2.setCell ⟨W.heap.size, 4, none⟩ (.int .i64 (-1))) (W.heap.size + 1) #[.int .u64 vb, .int .u64 vt, .int .u64 va, .int .i64 vp, .int .i64 vy, .bool true] := hy2.kp (KP.set1 w2 W.heap.size 4 _) hy2.lt (by omega)
    exact q.set 4 (.int .i64 (-1))
  have hz3 : BoxN w3 (W.heap.size + 2) zer6 := by
    rw [← hw3]
    have q : BoxN (w2.setCell ⟨W.heap.size, 4, none⟩ (.int .i64 (-1))) (W.heap.size + 2) zer6 := hz2.kp (KP.set1 w2 W.heap.size 4 _) hz2.lt (by omega)
    exact q.kp (KP.set1 _ (W.heap.size + 1) 4 _) q.lt (by omega)
  rw [hw3]
  have HX3 := Lib.hid hx3
  have HZ3 := Lib.hid hz3
  obtain ⟨⟨e0, e1, e2, e3, e4, e5⟩, -⟩ := boxN6 hy3
  clear hw3 hk3 hx3 hy3 hz3 hx2 hy2 hz2 c4 c4f e4f
  go_wp2_with fail
  refine (HWR.out w3 HB3.out).mono ?_; rintro e w4 ⟨rfl, hm4, hk4⟩
  have hnA : ∀ q, W.heap.size ≤ q → ¬ q = A := fun q hq e => by have := HM.out.mc.lt; omega
  obtain ⟨⟨x0, x1, x2, x3, x4, x5⟩, -⟩ := boxN6 (HX3.out.kp hk4 HX3.out.lt (hnA _ (Nat.le_refl _)))
  have hz4 := HZ3.out.kp hk4 HZ3.out.lt (hnA _ (by omega))
  obtain ⟨⟨y0, y1, y2, y3, y4, y5⟩, f0, f1, f2, f3, f4, f5⟩ := boxN6 hz4
  obtain ⟨hm5, mv5⟩ := (HM.out.below HB3.out).mach hm4 hk4 HFT.out.1 HFT.out.2
  have HM5 := Lib.hid hm5
  have HV5 := Lib.hid ((McMv.of_below F A HB3.out).trans mv5 HM.out.mc.lt)
  clear hm4 hk4 hm5 mv5 hz4 hnA e0 e1 e2 e3 e4 e5
  go_wp2_with fail
  have hend := mc_off6 HM5.out HV5.out (R := W.heap.size + 2) (by omega) HM.out.mc.lt HM.out.own.lt (fun q => by have := HM.out.own.lt _ q; omega) (.int .u64 cb) (.int .u64 ct) (.int .u64 ca) (.int .i64 cp) (.int .i64 (-1)) (.bool true)
  exact bodyPost_ret (v := .tuple #[.agg #[.int .u64 cb, .int .u64 ct, .int .u64 ca, .int .i64 cp, .int .i64 (-1), .bool true], .int .i64 0]) (by simp [results, Tryz.results98, go_sem, *]) rfl ⟨rfl, hend.1, hend.2⟩
theorem invoke_any (W : World) (N A M : Nat) (F : Nat → Prop) (s : Mch) (h : McS W N A M F s) (c v : Cp) (hc : FitC c) (hv : FitC v) :
    Calls Tryz.prog 98 #[.pointer (some ⟨A, 0, none⟩), .agg (capC c).toArray, .agg (capC v).toArray] W fun e w' => ∃ d : Cp, e = .returned (.tuple #[.agg (capC d).toArray, .int .i64 (invokeE c v)]) ∧ ((invokeE c v ≠ 0 ∧ Below W.heap.size W w') ∨ (invokeE c v = 0 ∧ d = openP c ∧ McS w' N A M F ⟨s.pc, putP s.rs 31 (openP v), s.m⟩ ∧ McMv W w' F F A)) := by
  obtain ⟨cb, ct, ca, cp, cy, cg⟩ := c
  obtain ⟨vb, vt, va, vp, vy, vg⟩ := v
  have hbad : ∀ er : Int, er ≠ 0 → Calls Tryz.prog 98 #[.pointer (some ⟨A, 0, none⟩), .agg (capC ⟨cb, ct, ca, cp, cy, cg⟩).toArray, .agg (capC ⟨vb, vt, va, vp, vy, vg⟩).toArray] W (fun e w' => e = .returned (.tuple #[.agg zer6, .int .i64 er]) ∧ Below W.heap.size W w') → invokeE ⟨cb, ct, ca, cp, cy, cg⟩ ⟨vb, vt, va, vp, vy, vg⟩ = er →
      Calls Tryz.prog 98 #[.pointer (some ⟨A, 0, none⟩), .agg (capC ⟨cb, ct, ca, cp, cy, cg⟩).toArray, .agg (capC ⟨vb, vt, va, vp, vy, vg⟩).toArray] W fun e w' => ∃ d : Cp, e = .returned (.tuple #[.agg (capC d).toArray, .int .i64 (invokeE ⟨cb, ct, ca, cp, cy, cg⟩ ⟨vb, vt, va, vp, vy, vg⟩)]) ∧ ((invokeE ⟨cb, ct, ca, cp, cy, cg⟩ ⟨vb, vt, va, vp, vy, vg⟩ ≠ 0 ∧ Below W.heap.size W w') ∨ (invokeE ⟨cb, ct, ca, cp, cy, cg⟩ ⟨vb, vt, va, vp, vy, vg⟩ = 0 ∧ d = openP ⟨cb, ct, ca, cp, cy, cg⟩ ∧ McS w' N A M F ⟨s.pc, putP s.rs 31 (openP ⟨vb, vt, va, vp, vy, vg⟩), s.m⟩ ∧ McMv W w' F F A)) := fun er hne hcall he => by
    rw [he]
    exact hcall.mono fun e w' q => ⟨⟨0, 0, 0, 0, 0, false⟩, q.1, Or.inl ⟨hne, q.2⟩⟩
  cases cg with
  | false => exact hbad 20 (by decide) (inv_1 W A cb ct ca cp cy vb vt va vp vy vg) (by unfold invokeE; rfl)
  | true =>
    cases vg with
    | false => exact hbad 20 (by decide) (inv_2 W A cb ct ca cp cy vb vt va vp vy) (by unfold invokeE; rfl)
    | true =>
      have e0 : invokeE ⟨cb, ct, ca, cp, cy, true⟩ ⟨vb, vt, va, vp, vy, true⟩ = if cy < 0 ∨ vy < 0 then 21 else if cy ≠ vy then 62 else if (bits .and .i64 (bits .and .i64 cp vp) 128 == 0 || bits .and .i64 cp 4 == 0 || bits .and .i64 vp 4 != 0) = true then 22 else 0 := by unfold invokeE; rfl
      by_cases h0 : cy < 0
      · exact hbad 21 (by decide) (inv_3 W A cb ct ca cp cy vb vt va vp vy h0) (by rw [e0, if_pos (Or.inl h0)])
      by_cases h1 : vy < 0
      · exact hbad 21 (by decide) (inv_4 W A cb ct ca cp cy vb vt va vp vy (by omega) h1) (by rw [e0, if_pos (Or.inr h1)])
      have e1 : (if cy < 0 ∨ vy < 0 then (21 : Int) else if cy ≠ vy then 62 else if (bits .and .i64 (bits .and .i64 cp vp) 128 == 0 || bits .and .i64 cp 4 == 0 || bits .and .i64 vp 4 != 0) = true then 22 else 0) = (if cy ≠ vy then 62 else if (bits .and .i64 (bits .and .i64 cp vp) 128 == 0 || bits .and .i64 cp 4 == 0 || bits .and .i64 vp 4 != 0) = true then 22 else 0) := if_neg (by omega)
      by_cases h2 : cy = vy
      · have e2 : (if cy ≠ vy then (62 : Int) else if (bits .and .i64 (bits .and .i64 cp vp) 128 == 0 || bits .and .i64 cp 4 == 0 || bits .and .i64 vp 4 != 0) = true then 22 else 0) = (if (bits .and .i64 (bits .and .i64 cp vp) 128 == 0 || bits .and .i64 cp 4 == 0 || bits .and .i64 vp 4 != 0) = true then 22 else 0) := if_neg (by simpa using h2)
        by_cases h3 : bits .and .i64 (bits .and .i64 cp vp) 128 = 0
        · exact hbad 22 (by decide) (inv_6 W A cb ct ca cp cy vb vt va vp vy (by omega) (by omega) h2 h3) (by rw [e0, e1, e2, if_pos (by simp [h3])])
        by_cases h4 : bits .and .i64 cp 4 = 0
        · exact hbad 22 (by decide) (inv_7 W A cb ct ca cp cy vb vt va vp vy (by omega) (by omega) h2 h3 h4) (by rw [e0, e1, e2, if_pos (by simp [h4])])
        by_cases h5 : bits .and .i64 vp 4 = 0
        · have e3 : invokeE ⟨cb, ct, ca, cp, cy, true⟩ ⟨vb, vt, va, vp, vy, true⟩ = 0 := by rw [e0, e1, e2, if_neg (by simp [h3, h4, h5])]
          rw [e3]
          exact (inv_go W N A M F s h cb ct ca cp cy vb vt va vp vy ⟨hv.b0, hv.b1, hv.t0, hv.t1, hv.a0, hv.a1⟩ (by omega) (by omega) h2 h3 h4 h5).mono fun e w' q => ⟨⟨cb, ct, ca, cp, -1, true⟩, q.1, Or.inr ⟨rfl, rfl, q.2⟩⟩
        · exact hbad 22 (by decide) (inv_8 W A cb ct ca cp cy vb vt va vp vy (by omega) (by omega) h2 h3 h4 h5) (by rw [e0, e1, e2, if_pos (by simp [h5])])
      · exact hbad 62 (by decide) (inv_5 W A cb ct ca cp cy vb vt va vp vy (by omega) (by omega) h2) (by rw [e0, e1, if_pos h2])
end Go.Proofs.YtegoddghfjfibaaGreatDoor

