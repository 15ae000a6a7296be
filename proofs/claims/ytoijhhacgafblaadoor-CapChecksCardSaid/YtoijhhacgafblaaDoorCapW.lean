/- The chapter's examples of capabilities hold: 'awake' answers true. -/
import Derived.Test.YtoijhhacgafblaaDoorCapT
import Derived.Deep.DeepCutAuto
namespace Go.Proofs.YtoijhhacgafblaaDoor
set_option linter.unusedVariables false
set_option linter.unusedSimpArgs false
open Go.ChangeShapes Go.WideShapes Go.ChangeAt Go.RowKit

theorem exb1 : boundC ⟨0, 100, 10, 255, -1, true⟩ 5 = ⟨10, 15, 10, 255, -1, true⟩ := by rfl
theorem exb2 : boundC ⟨0, 100, 98, 255, -1, true⟩ 5 = ⟨0, 100, 98, 255, -1, false⟩ := by rfl
theorem exm (x : Int) : moveC ⟨0, 100, 0, 255, -1, true⟩ x = ⟨0, 100, x, 255, -1, true⟩ := by rfl
theorem exc1 : checkC ⟨10, 15, 10, 255, -1, true⟩ 5 1 = 0 := by rfl
theorem exc2 : checkC ⟨10, 15, 10, 255, -1, true⟩ 6 1 = 23 := by rfl
theorem exs : sealC ⟨0, 100, 0, 255, -1, true⟩ ⟨0, 100, 3, 255, -1, true⟩ = ⟨0, 100, 0, 255, 3, true⟩ := by rfl
theorem exu : unsealC ⟨0, 100, 0, 255, 3, true⟩ ⟨0, 100, 3, 255, -1, true⟩ = ⟨0, 100, 0, 255, -1, true⟩ := by rfl
theorem exc3 : checkC ⟨0, 100, 0, 255, 3, true⟩ 1 1 = 21 := by rfl
theorem ext : textT true 0 100 0 255 = [43, 48, 46, 46, 49, 48, 48, 64, 48, 58, 50, 53, 53] := by decide +kernel

theorem cells6 {w W' : World} {v0 v1 v2 v3 v4 v5 : Value} {t : TypeId} (h : Below (w.alloc (.cells #[v0, v1, v2, v3, v4, v5] t)).heap.size (w.alloc (.cells #[v0, v1, v2, v3, v4, v5] t)) W') :
    W'.cell? ⟨w.heap.size, 0, none⟩ = some v0 ∧ W'.cell? ⟨w.heap.size, 1, none⟩ = some v1 ∧ W'.cell? ⟨w.heap.size, 2, none⟩ = some v2 ∧ W'.cell? ⟨w.heap.size, 3, none⟩ = some v3 ∧ W'.cell? ⟨w.heap.size, 4, none⟩ = some v4 ∧ W'.cell? ⟨w.heap.size, 5, none⟩ = some v5 :=
  ⟨boxed h 0, boxed h 1, boxed h 2, boxed h 3, boxed h 4, boxed h 5⟩

theorem cellsF {w W' : World} {v0 v1 v2 v3 v4 v5 : Value} {t : TypeId} (h : Below (w.alloc (.cells #[v0, v1, v2, v3, v4, v5] t)).heap.size (w.alloc (.cells #[v0, v1, v2, v3, v4, v5] t)) W') (j : Nat) : W'.frozen? ⟨w.heap.size, j, none⟩ = false := by
  rw [h.frozen (p := ⟨w.heap.size, j, none⟩) (by rw [size_alloc]; exact Nat.lt_succ_self _)]
  have hh : (w.alloc (.cells #[v0, v1, v2, v3, v4, v5] t)).heap[w.heap.size]? = some (.cells #[v0, v1, v2, v3, v4, v5] t (0, 0)) := heap_alloc_new w _
  unfold World.frozen?
  dsimp only
  rw [hh]
  simp

theorem undrew {w w' : World} (h : Below w.drew.heap.size w.drew w') : Below w.heap.size w w' := ⟨h.os, h.tape, h.output, h.size, h.block⟩

theorem set6 {w : World} {P : Nat} {u0 u1 u2 u3 u4 u5 v0 v1 v2 v3 v4 v5 : Value} (h : w.cell? ⟨P, 0, none⟩ = some u0 ∧ w.cell? ⟨P, 1, none⟩ = some u1 ∧ w.cell? ⟨P, 2, none⟩ = some u2 ∧ w.cell? ⟨P, 3, none⟩ = some u3 ∧ w.cell? ⟨P, 4, none⟩ = some u4 ∧ w.cell? ⟨P, 5, none⟩ = some u5) :
    ((((((w.setCell ⟨P, 0, none⟩ v0).setCell ⟨P, 1, none⟩ v1).setCell ⟨P, 2, none⟩ v2).setCell ⟨P, 3, none⟩ v3).setCell ⟨P, 4, none⟩ v4).setCell ⟨P, 5, none⟩ v5).cell? ⟨P, 0, none⟩ = some v0 ∧ ((((((w.setCell ⟨P, 0, none⟩ v0).setCell ⟨P, 1, none⟩ v1).setCell ⟨P, 2, none⟩ v2).setCell ⟨P, 3, none⟩ v3).setCell ⟨P, 4, none⟩ v4).setCell ⟨P, 5, none⟩ v5).cell? ⟨P, 1, none⟩ = some v1 ∧ ((((((w.setCell ⟨P, 0, none⟩ v0).setCell ⟨P, 1, none⟩ v1).setCell ⟨P, 2, none⟩ v2).setCell ⟨P, 3, none⟩ v3).setCell ⟨P, 4, none⟩ v4).setCell ⟨P, 5, none⟩ v5).cell? ⟨P, 2, none⟩ = some v2 ∧ ((((((w.setCell ⟨P, 0, none⟩ v0).setCell ⟨P, 1, none⟩ v1).setCell ⟨P, 2, none⟩ v2).setCell ⟨P, 3, none⟩ v3).setCell ⟨P, 4, none⟩ v4).setCell ⟨P, 5, none⟩ v5).cell? ⟨P, 3, none⟩ = some v3 ∧ ((((((w.setCell ⟨P, 0, none⟩ v0).setCell ⟨P, 1, none⟩ v1).setCell ⟨P, 2, none⟩ v2).setCell ⟨P, 3, none⟩ v3).setCell ⟨P, 4, none⟩ v4).setCell ⟨P, 5, none⟩ v5).cell? ⟨P, 4, none⟩ = some v4 ∧ ((((((w.setCell ⟨P, 0, none⟩ v0).setCell ⟨P, 1, none⟩ v1).setCell ⟨P, 2, none⟩ v2).setCell ⟨P, 3, none⟩ v3).setCell ⟨P, 4, none⟩ v4).setCell ⟨P, 5, none⟩ v5).cell? ⟨P, 5, none⟩ = some v5 := by
  obtain ⟨h0, h1, h2, h3, h4, h5⟩ := h
  refine ⟨?_, ?_, ?_, ?_, ?_, ?_⟩
  · refine (World.cell?_setCell_other _ _ _ _ (by simp)).trans ?_; refine (World.cell?_setCell_other _ _ _ _ (by simp)).trans ?_; refine (World.cell?_setCell_other _ _ _ _ (by simp)).trans ?_; refine (World.cell?_setCell_other _ _ _ _ (by simp)).trans ?_; refine (World.cell?_setCell_other _ _ _ _ (by simp)).trans ?_; refine World.cell?_setCell_same (u := u0) _ _ _ ?_; exact h0
  · refine (World.cell?_setCell_other _ _ _ _ (by simp)).trans ?_; refine (World.cell?_setCell_other _ _ _ _ (by simp)).trans ?_; refine (World.cell?_setCell_other _ _ _ _ (by simp)).trans ?_; refine (World.cell?_setCell_other _ _ _ _ (by simp)).trans ?_; refine World.cell?_setCell_same (u := u1) _ _ _ ?_; refine (World.cell?_setCell_other _ _ _ _ (by simp)).trans ?_; exact h1
  · refine (World.cell?_setCell_other _ _ _ _ (by simp)).trans ?_; refine (World.cell?_setCell_other _ _ _ _ (by simp)).trans ?_; refine (World.cell?_setCell_other _ _ _ _ (by simp)).trans ?_; refine World.cell?_setCell_same (u := u2) _ _ _ ?_; refine (World.cell?_setCell_other _ _ _ _ (by simp)).trans ?_; refine (World.cell?_setCell_other _ _ _ _ (by simp)).trans ?_; exact h2
  · refine (World.cell?_setCell_other _ _ _ _ (by simp)).trans ?_; refine (World.cell?_setCell_other _ _ _ _ (by simp)).trans ?_; refine World.cell?_setCell_same (u := u3) _ _ _ ?_; refine (World.cell?_setCell_other _ _ _ _ (by simp)).trans ?_; refine (World.cell?_setCell_other _ _ _ _ (by simp)).trans ?_; refine (World.cell?_setCell_other _ _ _ _ (by simp)).trans ?_; exact h3
  · refine (World.cell?_setCell_other _ _ _ _ (by simp)).trans ?_; refine World.cell?_setCell_same (u := u4) _ _ _ ?_; refine (World.cell?_setCell_other _ _ _ _ (by simp)).trans ?_; refine (World.cell?_setCell_other _ _ _ _ (by simp)).trans ?_; refine (World.cell?_setCell_other _ _ _ _ (by simp)).trans ?_; refine (World.cell?_setCell_other _ _ _ _ (by simp)).trans ?_; exact h4
  · refine World.cell?_setCell_same (u := u5) _ _ _ ?_; refine (World.cell?_setCell_other _ _ _ _ (by simp)).trans ?_; refine (World.cell?_setCell_other _ _ _ _ (by simp)).trans ?_; refine (World.cell?_setCell_other _ _ _ _ (by simp)).trans ?_; refine (World.cell?_setCell_other _ _ _ _ (by simp)).trans ?_; refine (World.cell?_setCell_other _ _ _ _ (by simp)).trans ?_; exact h5

theorem text_r (w : World) (htab : Tab w.heap.size w) :
    Calls Tryd.prog 31 #[.agg #[.int .u64 0, .int .u64 100, .int .u64 0, .int .i64 255, .int .i64 (-1), .bool true]] w fun e w' => e = .returned (.string ⟨#[43, 48, 46, 46, 49, 48, 48, 64, 48, 58, 50, 53, 53]⟩) ∧ Below w.heap.size w w' := by
  have h := text_any 0 100 0 255 (-1) true w htab (by omega) (by omega) (by omega) (by omega) (by omega)
  rw [ext] at h
  exact h

theorem six2 {a0 a1 a2 a3 a4 a5 : Prop} {b : Prop} (h : a0 ∧ a1 ∧ a2 ∧ a3 ∧ a4 ∧ a5) (k : b) : a0 ∧ a1 ∧ a2 ∧ a3 ∧ a4 ∧ a5 ∧ b := ⟨h.1, h.2.1, h.2.2.1, h.2.2.2.1, h.2.2.2.2.1, h.2.2.2.2.2, k⟩

theorem keep6 {W W' : World} {P : Nat} {v0 v1 v2 v3 v4 v5 : Value} (hb : Below W.heap.size W W') (hP : P < W.heap.size)
    (h : W.cell? ⟨P, 0, none⟩ = some v0 ∧ W.cell? ⟨P, 1, none⟩ = some v1 ∧ W.cell? ⟨P, 2, none⟩ = some v2 ∧ W.cell? ⟨P, 3, none⟩ = some v3 ∧ W.cell? ⟨P, 4, none⟩ = some v4 ∧ W.cell? ⟨P, 5, none⟩ = some v5) :
    W'.cell? ⟨P, 0, none⟩ = some v0 ∧ W'.cell? ⟨P, 1, none⟩ = some v1 ∧ W'.cell? ⟨P, 2, none⟩ = some v2 ∧ W'.cell? ⟨P, 3, none⟩ = some v3 ∧ W'.cell? ⟨P, 4, none⟩ = some v4 ∧ W'.cell? ⟨P, 5, none⟩ = some v5 :=
  ⟨(hb.cell (p := ⟨P, 0, none⟩) hP).trans h.1, (hb.cell (p := ⟨P, 1, none⟩) hP).trans h.2.1, (hb.cell (p := ⟨P, 2, none⟩) hP).trans h.2.2.1, (hb.cell (p := ⟨P, 3, none⟩) hP).trans h.2.2.2.1, (hb.cell (p := ⟨P, 4, none⟩) hP).trans h.2.2.2.2.1, (hb.cell (p := ⟨P, 5, none⟩) hP).trans h.2.2.2.2.2⟩

set_option maxHeartbeats 3200000 in
theorem awake_any (w : World) (htab : Tab w.heap.size w) :
    Calls Tryd.prog 10 #[] w fun e w' => e = .returned (.bool true) ∧ Below w.heap.size w w' := by
  have HT := Lib.hid htab
  clear htab
  go_enter Tryd.func10, Tryd.ntmps10
  go_wp2_with fail
  refine (root_any 100 _).mono ?_; rintro e w1 ⟨rfl, hb⟩; dsimp only [rootC]
  have HB1 := Lib.hid hb
  clear hb
  go_wp2_with fail
  refine (move_any _ _ _ _ _ _ 10 _).mono ?_; rintro e w2 ⟨rfl, hb⟩; rw [exm]; dsimp only
  have HB2 := Lib.hid hb
  clear hb
  go_wp2_with fail
  refine (bound_any _ _ _ _ _ _ 5 _ (by omega) (by omega) (by omega) (by omega)).mono ?_; rintro e w3 ⟨rfl, hb⟩; rw [exb1]; dsimp only
  have HB3 := Lib.hid (bTrans HB2.out hb)
  have HA := Lib.hid (bAlloc HB3.out (.cells #[.int .u64 10, .int .u64 15, .int .u64 10, .int .i64 255, .int .i64 (-1), .bool true] 24))
  obtain ⟨q0, q1, q2, q3, q4, q5⟩ := cells6 HA.out
  clear hb
  go_wp2_with fail
  refine (move_any _ _ _ _ _ _ 98 _).mono ?_; rintro e w4 ⟨rfl, hb⟩; rw [exm]; dsimp only
  have R4 := Lib.hid (bTrans HA.out hb)
  have A4 := Lib.hid hb
  clear hb q0 q1 q2 q3 q4 q5
  go_wp2_with fail
  refine (bound_any _ _ _ _ _ _ 5 _ (by omega) (by omega) (by omega) (by omega)).mono ?_; rintro e w5 ⟨rfl, hb⟩; rw [exb2]; dsimp only
  have R5 := Lib.hid (bAlloc (bTrans R4.out hb) (.cells #[.int .u64 0, .int .u64 100, .int .u64 98, .int .i64 255, .int .i64 (-1), .bool false] 24))
  have A5 := Lib.hid (bAlloc (bTrans A4.out hb) (.cells #[.int .u64 0, .int .u64 100, .int .u64 98, .int .i64 255, .int .i64 (-1), .bool false] 24))
  clear hb R4 A4
  obtain ⟨q0, q1, q2, q3, q4, q5⟩ := cells6 A5.out
  go_wp2_with fail
  refine (check_any _ _ _ _ _ _ 5 1 _ (by omega) (by omega) (by omega)).mono ?_; rintro e w6 ⟨rfl, hb⟩; rw [exc1]
  have R6 := Lib.hid (bTrans R5.out hb)
  have A6 := Lib.hid (bTrans A5.out hb)
  have B6 := Lib.hid hb
  clear hb R5 A5 q0 q1 q2 q3 q4 q5
  obtain ⟨q0, q1, q2, q3, q4, q5⟩ := cells6 A6.out
  go_wp2_with fail
  refine (check_any _ _ _ _ _ _ 6 1 _ (by omega) (by omega) (by omega)).mono ?_; rintro e w7 ⟨rfl, hb⟩; rw [exc2]
  have R7 := Lib.hid (bTrans R6.out hb)
  have A7 := Lib.hid (bTrans A6.out hb)
  have B7 := Lib.hid (bTrans B6.out hb)
  clear hb R6 A6 B6 q0 q1 q2 q3 q4 q5
  obtain ⟨r0, r1, r2, r3, r4, r5⟩ := cells6 R7.out
  have s7 : w1.heap.size < w7.heap.size := by have := R7.out.size; rw [size_alloc] at this; exact this
  go_upto_region 6 with fail
  go_cut [6] (fun s6 wx => ∃ P : Nat, s6 = .pointer (some ⟨P, 0, none⟩) ∧ Hid (Below w7.heap.size w7 wx) ∧ P < wx.heap.size ∧ wx.cell? ⟨P, 0, none⟩ = some (.int .u64 0) ∧ wx.cell? ⟨P, 1, none⟩ = some (.int .u64 100) ∧ wx.cell? ⟨P, 2, none⟩ = some (.int .u64 0) ∧ wx.cell? ⟨P, 3, none⟩ = some (.int .i64 255) ∧ wx.cell? ⟨P, 4, none⟩ = some (.int .i64 3) ∧ wx.cell? ⟨P, 5, none⟩ = some (.bool true))
  case first =>
    go_region_held3 (fun W => W.cell? ⟨w1.heap.size, 0, none⟩ = some (.int .u64 0) ∧ W.cell? ⟨w1.heap.size, 1, none⟩ = some (.int .u64 100) ∧ W.cell? ⟨w1.heap.size, 2, none⟩ = some (.int .u64 0) ∧ W.cell? ⟨w1.heap.size, 3, none⟩ = some (.int .i64 255) ∧ W.cell? ⟨w1.heap.size, 4, none⟩ = some (.int .i64 (-1)) ∧ W.cell? ⟨w1.heap.size, 5, none⟩ = some (.bool true))
      (exact cells6 (by repeat' (first | (with_reducible refine Below.setCell ?_ ?_ _) | (with_reducible refine bAlloc ?_ _) | (with_reducible exact bTrans R7.out HB9.out) | (with_reducible exact bTrans R7.out HB8.out) | (with_reducible refine Below.drew ?_) | (with_reducible exact R7.out) | (rw [size_alloc]; simp only []; omega))))
      (first
        | (go_at_call 17; (with_reducible refine (move_any _ _ _ _ _ _ 3 _).mono ?_); rintro e w8 ⟨rfl, hb⟩; rw [exm]; dsimp only; have HB8 := Lib.hid (bTrans (w := w7) (by repeat' (first | exact Below.refl _ _ | apply Below.drew | apply bAlloc)) hb); have s8 := HB8.out.size; (first | (have HZ := Lib.hid (undrew hb)) | (have HZ := Lib.hid hb)); (first | (have zf := cellsF HZ.out; have zz := cells6 HZ.out; obtain ⟨z0, z1, z2, z3, z4, z5⟩ := zz) | skip); clear hb)
        | (go_at_call 25; (with_reducible refine (seal_any _ _ _ _ _ _ _ _ _ _ _ _ _ (by omega)).mono ?_); rintro e w9 ⟨rfl, hb⟩; rw [exs]; dsimp only; have HB9 := Lib.hid (bTrans (w := w7) (by repeat' (first | exact HB8.out | apply Below.drew | apply bAlloc)) hb); have s9 := HB9.out.size; (first | (have yz := hb.size; rw [size_alloc] at yz; have yf := cellsF hb; have yy := cells6 hb; obtain ⟨y0, y1, y2, y3, y4, y5⟩ := yy) | (have yz := (bTrans HZ.out hb).size; rw [size_alloc] at yz; have yf := cellsF (bTrans HZ.out hb); have yy := cells6 (bTrans HZ.out hb); obtain ⟨y0, y1, y2, y3, y4, y5⟩ := yy) | skip); clear hb))
    all_goals (go_wp2_with fail)
    all_goals go_meet
    all_goals first
      | exact ⟨w9.heap.size, by with_reducible rfl, by with_reducible exact Lib.hid (bAlloc HB9.out _), by rw [size_alloc]; omega, by simp [World.cell?_alloc_new], by simp [World.cell?_alloc_new], by simp [World.cell?_alloc_new], by simp [World.cell?_alloc_new], by simp [World.cell?_alloc_new], by simp [World.cell?_alloc_new]⟩
      | exact ⟨_, by with_reducible rfl, Lib.hid (by repeat' (first | (with_reducible refine Below.setCell ?_ ?_ _) | (with_reducible exact HB9.out) | (simp only []; omega))), by simp only [World.size_setCell']; omega, set6 ⟨y0, y1, y2, y3, y4, y5⟩⟩
  case rest =>
    obtain ⟨P, rfl, HX, hP, e0, e1, e2, e3, e4, e5⟩ := hcut
    have R9 := Lib.hid (bTrans R7.out HX.out)
    have A9 := Lib.hid (bTrans A7.out HX.out)
    have B9 := Lib.hid (bTrans B7.out HX.out)
    clear r0 r1 r2 r3 r4 r5 R7 A7 B7 HX s7
    obtain ⟨r0, r1, r2, r3, r4, r5⟩ := cells6 R9.out
    have s7 : w1.heap.size < wc.heap.size := by have := R9.out.size; rw [size_alloc] at this; exact this
    have ER := Lib.hid (And.intro r0 (And.intro r1 (And.intro r2 (And.intro r3 (And.intro r4 r5)))))
    have EE := Lib.hid (And.intro e0 (And.intro e1 (And.intro e2 (And.intro e3 (And.intro e4 e5)))))
    go_upto_region 7 with fail
    go_cut [7] (fun s7 wx => ∃ F : Nat, s7 = .pointer (some ⟨F, 0, none⟩) ∧ Hid (Below wc.heap.size wc wx) ∧ F < wx.heap.size ∧ wx.cell? ⟨F, 0, none⟩ = some (.int .u64 0) ∧ wx.cell? ⟨F, 1, none⟩ = some (.int .u64 100) ∧ wx.cell? ⟨F, 2, none⟩ = some (.int .u64 0) ∧ wx.cell? ⟨F, 3, none⟩ = some (.int .i64 255) ∧ wx.cell? ⟨F, 4, none⟩ = some (.int .i64 (-1)) ∧ wx.cell? ⟨F, 5, none⟩ = some (.bool true))
    case first =>
      go_region_held3 (fun W => W.cell? ⟨w1.heap.size, 0, none⟩ = some (.int .u64 0) ∧ W.cell? ⟨w1.heap.size, 1, none⟩ = some (.int .u64 100) ∧ W.cell? ⟨w1.heap.size, 2, none⟩ = some (.int .u64 0) ∧ W.cell? ⟨w1.heap.size, 3, none⟩ = some (.int .i64 255) ∧ W.cell? ⟨w1.heap.size, 4, none⟩ = some (.int .i64 (-1)) ∧ W.cell? ⟨w1.heap.size, 5, none⟩ = some (.bool true) ∧ W.cell? ⟨P, 0, none⟩ = some (.int .u64 0) ∧ W.cell? ⟨P, 1, none⟩ = some (.int .u64 100) ∧ W.cell? ⟨P, 2, none⟩ = some (.int .u64 0) ∧ W.cell? ⟨P, 3, none⟩ = some (.int .i64 255) ∧ W.cell? ⟨P, 4, none⟩ = some (.int .i64 3) ∧ W.cell? ⟨P, 5, none⟩ = some (.bool true))
        (refine six2 (keep6 (W := wc) (by repeat' (first | (with_reducible refine Below.setCell ?_ ?_ _) | (with_reducible refine bAlloc ?_ _) | (with_reducible exact HB9.out) | (with_reducible exact HB8.out) | (with_reducible refine Below.drew ?_) | (with_reducible exact Below.refl _ _) | (simp only []; omega))) (by assumption) ER.out) (keep6 (W := wc) (by repeat' (first | (with_reducible refine Below.setCell ?_ ?_ _) | (with_reducible refine bAlloc ?_ _) | (with_reducible exact HB9.out) | (with_reducible exact HB8.out) | (with_reducible refine Below.drew ?_) | (with_reducible exact Below.refl _ _) | (simp only []; omega))) (by assumption) EE.out))
        (first
          | (go_at_call 17; (with_reducible refine (move_any _ _ _ _ _ _ 3 _).mono ?_); rintro e w8 ⟨rfl, hb⟩; rw [exm]; dsimp only; have HB8 := Lib.hid (bTrans (w := wc) (by repeat' (first | exact Below.refl _ _ | apply Below.drew | apply bAlloc)) hb); have s8 := HB8.out.size; (first | (have HZ := Lib.hid (undrew hb)) | (have HZ := Lib.hid hb)); (first | (have zf := cellsF HZ.out; have zz := cells6 HZ.out; obtain ⟨z0, z1, z2, z3, z4, z5⟩ := zz) | skip); clear hb)
          | (go_at_call 26; (with_reducible refine (unseal_any _ _ _ _ _ _ _ _ _ _ _ _ _ (by omega)).mono ?_); rintro e w9 ⟨rfl, hb⟩; rw [exu]; dsimp only; have HB9 := Lib.hid (bTrans (w := wc) (by repeat' (first | exact HB8.out | apply Below.drew | apply bAlloc)) hb); have s9 := HB9.out.size; (first | (have yz := hb.size; rw [size_alloc] at yz; have yf := cellsF hb; have yy := cells6 hb; obtain ⟨y0, y1, y2, y3, y4, y5⟩ := yy) | (have yz := (bTrans HZ.out hb).size; rw [size_alloc] at yz; have yf := cellsF (bTrans HZ.out hb); have yy := cells6 (bTrans HZ.out hb); obtain ⟨y0, y1, y2, y3, y4, y5⟩ := yy) | skip); clear hb))
      all_goals (go_wp2_with fail)
      all_goals go_meet
      all_goals first
        | exact ⟨w9.heap.size, by with_reducible rfl, by with_reducible exact Lib.hid (bAlloc HB9.out _), by rw [size_alloc]; omega, by simp [World.cell?_alloc_new], by simp [World.cell?_alloc_new], by simp [World.cell?_alloc_new], by simp [World.cell?_alloc_new], by simp [World.cell?_alloc_new], by simp [World.cell?_alloc_new]⟩
        | exact ⟨_, by with_reducible rfl, Lib.hid (by repeat' (first | (with_reducible refine Below.setCell ?_ ?_ _) | (with_reducible exact HB9.out) | (simp only []; omega))), by simp only [World.size_setCell']; omega, set6 ⟨y0, y1, y2, y3, y4, y5⟩⟩
    case rest =>
      obtain ⟨F, rfl, HX, hF, f0, f1, f2, f3, f4, f5⟩ := hcut
      have R10 := Lib.hid (bTrans R9.out HX.out)
      have A10 := Lib.hid (bTrans A9.out HX.out)
      have B10 := Lib.hid (bTrans B9.out HX.out)
      have hP' := Nat.lt_of_lt_of_le hP HX.out.size
      obtain ⟨g0, g1, g2, g3, g4, g5⟩ := keep6 HX.out hP EE.out
      clear r0 r1 r2 r3 r4 r5 e0 e1 e2 e3 e4 e5 R9 A9 B9 EE ER hP HX s7
      go_wp2_with fail
      refine (check_any _ _ _ _ _ _ 1 1 _ (by omega) (by omega) (by omega)).mono ?_; rintro e w11 ⟨rfl, hb⟩; rw [exc3]
      have R11 := Lib.hid (bTrans R10.out hb)
      have A11 := Lib.hid (bTrans A10.out hb)
      have B11 := Lib.hid (bTrans B10.out hb)
      have FF := Lib.hid (keep6 hb hF (And.intro f0 (And.intro f1 (And.intro f2 (And.intro f3 (And.intro f4 f5))))))
      have hF1 := Nat.lt_of_lt_of_le hF hb.size
      clear g0 g1 g2 g3 g4 g5 f0 f1 f2 f3 f4 f5 R10 A10 B10 hb hF hP'
      obtain ⟨r0, r1, r2, r3, r4, r5⟩ := cells6 R11.out
      go_wp2_with fail
      refine (text_r _ (tab_on HT.out (bTrans (bAlloc HB1.out _) R11.out))).mono ?_; rintro e w12 ⟨rfl, hb⟩
      have R12 := Lib.hid (bTrans R11.out hb)
      have A12 := Lib.hid (bTrans A11.out hb)
      have B12 := Lib.hid (bTrans B11.out hb)
      obtain ⟨f0, f1, f2, f3, f4, f5⟩ := keep6 hb hF1 FF.out
      clear r0 r1 r2 r3 r4 r5 hb R11 A11 B11 FF
      obtain ⟨r0, r1, r2, r3, r4, r5⟩ := cells6 R12.out
      obtain ⟨a0, a1, a2, a3, a4, a5⟩ := cells6 A12.out
      obtain ⟨b0, b1, b2, b3, b4, b5⟩ := cells6 B12.out
      go_wp2_with fail
      go_ret
      exact ⟨rfl, bTrans (bAlloc HB1.out _) R12.out⟩
end Go.Proofs.YtoijhhacgafblaaDoor
