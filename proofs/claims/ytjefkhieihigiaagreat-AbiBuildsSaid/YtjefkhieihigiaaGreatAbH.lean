/- The stack; numbers rounded up; room; bytes 0 in a text. -/
import Derived.Test.YtjefkhieihigiaaGreatAbE
import Derived.Deep.Cut
namespace Go.Proofs.YtjefkhieihigiaaGreat
set_option linter.unusedVariables false
set_option linter.unusedSimpArgs false
open Go.Joins Go.ChangeShapes Go.WideShapes Go.ChangeAt Go.RowKit Go.Deep

set_option maxHeartbeats 2000000 in
theorem stack_any (W : World) (N b M : Nat) (F : Nat → Prop) (m : Mm) (x y : Nat) (h : RegO W N b M F m x) (hx : x < 1000000000) (hxy : x ≤ y) (hy : y < 1000000000) :
    Calls Tryz.prog 34 #[.pointer (some ⟨b, 0, none⟩), .int .u64 (y : Int)] W fun e W' => e = .returned (.agg #[.int .u64 (x : Int), .int .u64 (y : Int), .int .u64 (y : Int), .int .i64 27, .int .i64 (-1), .bool true]) ∧ Below W.heap.size W W' := by
  obtain ⟨W0, hW0⟩ : ∃ W0, W.alloc (.cells #[.int .u64 0, .int .u64 0, .int .u64 0, .int .i64 0, .int .i64 0, .bool false] 37) = W0 := ⟨_, rfl⟩
  have hb0 : Below W.heap.size W W0 := by rw [← hW0]; exact bAlloc (Below.refl _ _) _
  have HB0 := Lib.hid hb0
  have HZ0 : Hid (BoxN W0 W.heap.size #[.int .u64 0, .int .u64 0, .int .u64 0, .int .i64 0, .int .i64 0, .bool false]) := Lib.hid (by rw [← hW0]; exact BoxN.new W _ _)
  have q1 : W0.cell? ⟨b, 1, none⟩ = some (.int .u64 (x : Int)) := (h.below hb0).box.cell 1
  have HBY := Lib.hid (fun W1 => Ce.bytes_any (x : Int) (y : Int) 27 W1 (by omega) (by omega) (by omega) (by decide) (by decide))
  have HMV := Lib.hid (fun W1 => Ce.move_x (x : Int) (y : Int) (x : Int) 27 (y : Int) W1)
  have HW0 := Lib.hid hW0
  clear h hx hxy hy hb0 hW0
  go_enter Tryz.func34, Tryz.ntmps34
  go_upto_region 1 with fail
  (try rw [HW0.out])
  clear HW0
  go_wp2_with fail
  refine (HBY.out _).mono ?_; rintro e w3 ⟨rfl, hb⟩
  have HB3 := Lib.hid (HB0.out.trans (hb.mono HB0.out.size))
  have HZ3 := Lib.hid (boxN_below HZ0.out hb)
  clear hb
  go_wp2_with fail
  refine (HMV.out _).mono ?_; rintro e w4 ⟨rfl, hb⟩
  have HB4 := Lib.hid (HB3.out.trans (hb.mono HB3.out.size))
  have HZ4 := boxN_below HZ3.out hb
  obtain ⟨⟨z0, z1, z2, z3, z4, z5⟩, f0, f1, f2, f3, f4, f5⟩ := Ce.boxN6 HZ4
  clear hb
  go_wp2_with fail
  have hfin := (((((HZ4.set 0 (.int .u64 (x : Int))).set 1 (.int .u64 (y : Int))).set 2 (.int .u64 (y : Int))).set 3 (.int .i64 27)).set 4 (.int .i64 (-1))).set 5 (.bool true)
  obtain ⟨⟨y0, y1, y2, y3, y4, y5⟩, -⟩ := Ce.boxN6 hfin
  exact bodyPost_ret (v := .agg #[.int .u64 (x : Int), .int .u64 (y : Int), .int .u64 (y : Int), .int .i64 27, .int .i64 (-1), .bool true]) (by simp [results, Tryz.results34, go_sem, y0, y1, y2, y3, y4, y5]) rfl ⟨rfl, Ce.below_set6 HB4.out (Nat.le_refl _)⟩
theorem up_any (n : Nat) (w : World) (h : n < 1000000000000) :
    Calls Tryz.prog 28 #[.int .u64 (n : Int)] w fun e w' => e = .returned (.int .u64 ((upN n : Nat) : Int)) ∧ w = w' := by
  obtain ⟨q, hq⟩ : ∃ q, (n + 31) / 32 = q := ⟨_, rfl⟩
  have hu : upN n = q * 32 := by unfold upN; rw [hq]
  rw [hu]
  have h1 : IntKind.u64.wrap ((n : Int) + 32) = (n : Int) + 32 := by rw [IntKind.wrap_u64]; omega
  have h2 : IntKind.u64.wrap ((n : Int) + 32 - 1) = (n : Int) + 31 := by rw [IntKind.wrap_u64]; omega
  have h3 : ((n : Int) + 31).tdiv 32 = (q : Int) := by rw [Int.tdiv_eq_ediv_of_nonneg (by omega)]; omega
  have h4 : IntKind.u64.wrap (q : Int) = (q : Int) := by rw [IntKind.wrap_u64]; omega
  have h5 : IntKind.u64.wrap ((q : Int) * 32) = ((q * 32 : Nat) : Int) := by rw [IntKind.wrap_u64]; omega
  have h6 : ((n : Int) + 31) / 32 = (q : Int) := by omega
  clear hu h hq
  go_enter Tryz.func28, Tryz.ntmps28
  go_wp2_with fail
  go_ret
  exact ⟨by first | rfl | simp, rfl⟩
theorem roomFor_any (n p : Int) (w : World) (h0 : 0 ≤ n) (h1 : n < 1000000000000) (hp0 : -9223372036854775808 ≤ p) (hp1 : p < 9223372036854775808) :
    Calls Tryz.prog 31 #[.int .i64 n, .int .i64 p] w fun e w' => e = .returned (.bool (roomB n p)) ∧ w = w' := by
  unfold roomB
  by_cases hb : 65536 < p
  · have d1 : decide (65536 < p) = true := decide_eq_true hb
    rw [d1, Bool.true_or]
    clear h0 h1 hp0 hp1
    go_enter Tryz.func31, Tryz.ntmps31
    go_wp2_with fail
    go_ret
    exact ⟨rfl, rfl⟩
  · have d1 : decide (65536 < p) = false := decide_eq_false hb
    rw [d1, Bool.false_or]
    by_cases hz : 0 < p
    · have d2 : decide (0 < p) = true := decide_eq_true hz
      have w1 : IntKind.i64.wrap (p * 256) = p * 256 := by rw [IntKind.wrap_i64]; omega
      have w2 : IntKind.i64.wrap (p * 256 - 64) = p * 256 - 64 := by rw [IntKind.wrap_i64]; omega
      rw [d2, Bool.true_and]
      clear h0 h1 hp0 hp1
      go_enter Tryz.func31, Tryz.ntmps31
      go_wp2_with fail
      go_ret
      exact ⟨rfl, rfl⟩
    · have d2 : decide (0 < p) = false := decide_eq_false hz
      rw [d2, Bool.false_and]
      clear h0 h1 hp0 hp1
      go_enter Tryz.func31, Tryz.ntmps31
      go_wp2_with fail
      go_ret
      exact ⟨rfl, rfl⟩
end Go.Proofs.YtjefkhieihigiaaGreat
