/- Capabilities of segments: the small functions' contracts. -/
import Derived.Test.YteaididdamihlaaCp1
import Derived.Test.YteaididdamihlaaCg1
import Derived.BigQuiet
import Derived.BigRegion
namespace Go.Proofs.Yteaididdamihlaa.Ce
set_option linter.unusedVariables false
set_option linter.unusedSimpArgs false
open Go.Joins Go.ChangeShapes Go.WideShapes Go.ChangeAt Go.RowKit

/-- what flags let be done -/
def permF (f : Int) : Int := (if f % 2 = 1 then 9 else 0) + (if f / 2 % 2 = 1 then 18 else 0) + (if f / 4 % 2 = 1 then 4 else 0)
theorem flags8 (f : Int) (h0 : 0 ≤ f) (h7 : f ≤ 7) : f = 0 ∨ f = 1 ∨ f = 2 ∨ f = 3 ∨ f = 4 ∨ f = 5 ∨ f = 6 ∨ f = 7 := by omega
theorem perms_any (f : Int) (h0 : 0 ≤ f) (h7 : f ≤ 7) (w : World) :
    Calls Try.prog 8 #[.int .i64 f] w fun e w' => e = .returned (.int .i64 (permF f)) ∧ w = w' := by
  rcases flags8 f h0 h7 with rfl | rfl | rfl | rfl | rfl | rfl | rfl | rfl
  all_goals
    go_enter Try.func8, Try.ntmps8
    go_wp2_with fail
    go_ret
    exact ⟨rfl, rfl⟩
theorem rperms_any (f : Int) (h0 : 0 ≤ f) (h7 : f ≤ 7) (w : World) :
    Calls Try.prog 9 #[.int .i64 f] w fun e w' => e = .returned (.int .i64 (permF f)) ∧ w = w' := by
  rcases flags8 f h0 h7 with rfl | rfl | rfl | rfl | rfl | rfl | rfl | rfl
  all_goals
    go_enter Try.func9, Try.ntmps9
    go_wp2_with fail
    go_ret
    exact ⟨rfl, rfl⟩
theorem root_x (x : Int) (w : World) :
    Calls Try.prog 42 #[.int .u64 x] w fun e w' => e = .returned (.agg #[.int .u64 0, .int .u64 x, .int .u64 0, .int .i64 255, .int .i64 (-1), .bool true]) ∧ Below w.heap.size w w' := root_any x w
theorem null_x (w : World) :
    Calls Try.prog 25 #[] w fun e w' => e = .returned (.agg #[.int .u64 0, .int .u64 0, .int .u64 0, .int .i64 0, .int .i64 (-1), .bool false]) ∧ Below w.heap.size w w' := null_any w
theorem move_x (b t a p q : Int) (w : World) :
    Calls Try.prog 41 #[.agg #[.int .u64 b, .int .u64 t, .int .u64 a, .int .i64 p, .int .i64 (-1), .bool true], .int .u64 q] w fun e w' => e = .returned (.agg #[.int .u64 b, .int .u64 t, .int .u64 q, .int .i64 p, .int .i64 (-1), .bool true]) ∧ Below w.heap.size w w' := move_any b t a p (-1) true q w
theorem bound_x (b t a p n y : Int) (w : World) (h1 : 0 ≤ a) (h2 : a < 18446744073709551616) (h3 : 0 ≤ n) (h4 : t < 18446744073709551616) (hb : b ≤ a) (hy : a + n = y) (ht : y ≤ t) :
    Calls Try.prog 40 #[.agg #[.int .u64 b, .int .u64 t, .int .u64 a, .int .i64 p, .int .i64 (-1), .bool true], .int .u64 n] w fun e w' => e = .returned (.agg #[.int .u64 a, .int .u64 y, .int .u64 a, .int .i64 p, .int .i64 (-1), .bool true]) ∧ Below w.heap.size w w' := by
  have e : boundC (⟨b, t, a, p, -1, true⟩ : CapV) n = ⟨a, y, a, p, -1, true⟩ := by
    have hh : hasC (⟨b, t, a, p, -1, true⟩ : CapV) n = true := by
      unfold hasC
      simp only [Bool.and_eq_true, decide_eq_true_eq]
      omega
    unfold boundC
    rw [hh, hy]
    rfl
  have h := bound_any b t a p (-1) true n w h1 h2 h3 h4
  rw [e] at h
  exact h
theorem and_255 (pm : Int) (h0 : 0 ≤ pm) (h1 : pm ≤ 255) : bits .and .i64 255 pm = pm := by
  have h := and_low8 255 pm (by decide)
  rw [show ((255 : Nat) : Int) = 255 from rfl] at h
  rw [h, Nat.and_comm]
  have h2 := Nat.and_two_pow_sub_one_eq_mod (pm % 256).toNat 8
  rw [show (2 : Nat) ^ 8 - 1 = 255 from rfl] at h2
  rw [h2]
  omega
theorem and_x (b t a pm : Int) (w : World) (h0 : 0 ≤ pm) (h1 : pm ≤ 255) :
    Calls Try.prog 39 #[.agg #[.int .u64 b, .int .u64 t, .int .u64 a, .int .i64 255, .int .i64 (-1), .bool true], .int .i64 pm] w fun e w' => e = .returned (.agg #[.int .u64 b, .int .u64 t, .int .u64 a, .int .i64 pm, .int .i64 (-1), .bool true]) ∧ Below w.heap.size w w' := by
  have h := and_any b t a 255 (-1) true pm w
  have e : andC (⟨b, t, a, 255, -1, true⟩ : CapV) pm = ⟨b, t, a, pm, -1, true⟩ := by
    unfold andC
    rw [and_255 pm h0 h1]
    rfl
  rw [e] at h
  exact h
theorem boxN6 {W : World} {B : Nat} {v0 v1 v2 v3 v4 v5 : Value} (h : BoxN W B #[v0, v1, v2, v3, v4, v5]) :
    (W.cell? ⟨B, 0, none⟩ = some v0 ∧ W.cell? ⟨B, 1, none⟩ = some v1 ∧ W.cell? ⟨B, 2, none⟩ = some v2 ∧ W.cell? ⟨B, 3, none⟩ = some v3 ∧ W.cell? ⟨B, 4, none⟩ = some v4 ∧ W.cell? ⟨B, 5, none⟩ = some v5) ∧
      (W.frozen? ⟨B, 0, none⟩ = false ∧ W.frozen? ⟨B, 1, none⟩ = false ∧ W.frozen? ⟨B, 2, none⟩ = false ∧ W.frozen? ⟨B, 3, none⟩ = false ∧ W.frozen? ⟨B, 4, none⟩ = false ∧ W.frozen? ⟨B, 5, none⟩ = false) :=
  ⟨⟨h.cell 0, h.cell 1, h.cell 2, h.cell 3, h.cell 4, h.cell 5⟩, ⟨h.frozen 0, h.frozen 1, h.frozen 2, h.frozen 3, h.frozen 4, h.frozen 5⟩⟩
theorem below_set6 {B b : Nat} {w W : World} {v0 v1 v2 v3 v4 v5 : Value} (h : Below B w W) (hb : B ≤ b) : Below B w ((((((W.setCell ⟨b, 0, none⟩ v0).setCell ⟨b, 1, none⟩ v1).setCell ⟨b, 2, none⟩ v2).setCell ⟨b, 3, none⟩ v3).setCell ⟨b, 4, none⟩ v4).setCell ⟨b, 5, none⟩ v5) :=
  Below.setCell (p := ⟨b, 5, none⟩) (Below.setCell (p := ⟨b, 4, none⟩) (Below.setCell (p := ⟨b, 3, none⟩) (Below.setCell (p := ⟨b, 2, none⟩) (Below.setCell (p := ⟨b, 1, none⟩) (Below.setCell (p := ⟨b, 0, none⟩) h hb _) hb _) hb _) hb _) hb _) hb _
theorem over_any (x z y pm : Int) (w : World) (hx : 0 ≤ x) (hz : 0 ≤ z) (hy : x + z = y) (hyy : y < 18446744073709551616) (hp0 : 0 ≤ pm) (hp1 : pm ≤ 255) :
    Calls Try.prog 24 #[.int .u64 x, .int .u64 z, .int .i64 pm] w fun e w' => e = .returned (.agg #[.int .u64 x, .int .u64 y, .int .u64 x, .int .i64 pm, .int .i64 (-1), .bool true]) ∧ Below w.heap.size w w' := by
  have C1 := Lib.hid (fun w => root_x 18446744073709551615 w)
  have C2 := Lib.hid (fun w => move_x 0 18446744073709551615 0 255 x w)
  have C3 := Lib.hid (fun w => bound_x 0 18446744073709551615 x 255 z y w hx (by omega) hz (by decide) hx hy (by omega))
  have C4 := Lib.hid (fun w => and_x x y x pm w hp0 hp1)
  clear hx hz hy hyy hp0 hp1
  go_enter Try.func24, Try.ntmps24
  go_wp2_with fail
  refine (C1.out _).mono ?_; rintro e w1 ⟨rfl, hb⟩
  have B1 := Lib.hid ((bAlloc (Below.refl w.heap.size w) _).trans (hb.mono (by rw [size_alloc]; omega)))
  have X1 := Lib.hid ((BoxN.new w _ _).below hb (by rw [size_alloc]; omega))
  clear hb
  go_wp2_with fail
  refine (C2.out _).mono ?_; rintro e w2 ⟨rfl, hb⟩
  have B2 := Lib.hid (B1.out.trans (hb.mono B1.out.size))
  have X2 := Lib.hid (boxN_below X1.out hb)
  clear hb
  go_wp2_with fail
  refine (C3.out _).mono ?_; rintro e w3 ⟨rfl, hb⟩
  have B3 := Lib.hid (B2.out.trans (hb.mono B2.out.size))
  have X3 := Lib.hid (boxN_below X2.out hb)
  clear hb
  go_wp2_with fail
  refine (C4.out _).mono ?_; rintro e w4 ⟨rfl, hb⟩
  have B4 := Lib.hid (B3.out.trans (hb.mono B3.out.size))
  have X4 := Lib.hid (boxN_below X3.out hb)
  clear hb
  obtain ⟨⟨c0, c1, c2, c3, c4, c5⟩, f0, f1, f2, f3, f4, f5⟩ := boxN6 X4.out
  go_wp2_with fail
  exact bodyPost_ret (v := .agg #[.int .u64 x, .int .u64 y, .int .u64 x, .int .i64 pm, .int .i64 (-1), .bool true]) (by simp [results, Try.results24, go_sem, c0, c1, c2, c3, c4, c5]) rfl ⟨rfl, below_set6 B4.out (Nat.le_refl _)⟩
end Go.Proofs.Yteaididdamihlaa.Ce
