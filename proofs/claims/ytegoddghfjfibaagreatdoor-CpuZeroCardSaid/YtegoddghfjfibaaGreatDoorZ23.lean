/- CuE -/
import Derived.Test.YtegoddghfjfibaaGreatDoorZ22
namespace Go.Proofs.YtegoddghfjfibaaGreatDoor
set_option linter.unusedVariables false
set_option linter.unusedSimpArgs false
open Go.Joins Go.ChangeShapes Go.WideShapes Go.ChangeAt Go.RowKit Go.Deep

/-- six cells of a block that is new to the caller are set: the machine stands -/
theorem mc_off6 {W w : World} {N A M R : Nat} {F F' : Nat → Prop} {s : Mch} (h : McS w N A M F' s) (hm : McMv W w F F' A) (hR : W.heap.size ≤ R) (hA : A < W.heap.size) (hF : ∀ q, F q → q < W.heap.size) (hn : ¬ F' R) (v0 v1 v2 v3 v4 v5 : Value) :
    McS ((((((w.setCell ⟨R, 0, none⟩ v0).setCell ⟨R, 1, none⟩ v1).setCell ⟨R, 2, none⟩ v2).setCell ⟨R, 3, none⟩ v3).setCell ⟨R, 4, none⟩ v4).setCell ⟨R, 5, none⟩ v5) N A M F' s ∧ McMv W ((((((w.setCell ⟨R, 0, none⟩ v0).setCell ⟨R, 1, none⟩ v1).setCell ⟨R, 2, none⟩ v2).setCell ⟨R, 3, none⟩ v3).setCell ⟨R, 4, none⟩ v4).setCell ⟨R, 5, none⟩ v5) F F' A := by
  have hk := kp6 (KP.refl w.heap.size (· = R) w) R (Or.inr rfl) v0 v1 v2 v3 v4 v5
  refine ⟨⟨⟨h.own.mem.kp hk (Nat.le_refl _) (fun b hf e => hn (e ▸ hf)), h.own.ge, Nat.le_trans h.own.sz hk.size⟩, h.mc.off6 (fun e => by omega) v0 v1 v2 v3 v4 v5, h.na, h.fa, h.fpc, h.frs⟩, hm.sub, kp6 hm.kp R (Or.inl hR) v0 v1 v2 v3 v4 v5⟩
set_option maxHeartbeats 2000000 in
theorem jump_bad (W : World) (N A M : Nat) (F : Nat → Prop) (s : Mch) (h : McS W N A M F s) (rd : Nat) (hrd : rd < 32) (an : Nat) (cb ct cp cy : Int) (cg : Bool) (vb vt va vp vy : Int) (vg : Bool) (hc : FitC ⟨cb, ct, (an : Int), cp, cy, cg⟩) (hv : FitC ⟨vb, vt, va, vp, vy, vg⟩) (x : Int) (hx : checkP ⟨cb, ct, (an : Int), cp, cy, cg⟩ 4 4 = x) (hz : x ≠ 0) :
    Calls Tryz.prog 149 #[.pointer (some ⟨A, 0, none⟩), .int .i64 (rd : Int), .agg #[.int .u64 cb, .int .u64 ct, .int .u64 (an : Int), .int .i64 cp, .int .i64 cy, .bool cg], .agg #[.int .u64 vb, .int .u64 vt, .int .u64 va, .int .i64 vp, .int .i64 vy, .bool vg]] W fun e w' => e = .returned (.tuple #[.agg zer6, .int .i64 x]) ∧ Below W.heap.size W w' := by
  have hK := ccheck_any ⟨cb, ct, (an : Int), cp, cy, cg⟩ hc 4 4 (by decide)
  rw [hx] at hK
  unfold capC at hK
  simp only [] at hK
  have hal : an < 18446744073709551616 := by have := hc.a1; simp only [] at this; omega
  obtain ⟨b1, b2, b3, b4, b5⟩ := boxes3 W #[.int .u64 cb, .int .u64 ct, .int .u64 (an : Int), .int .i64 cp, .int .i64 cy, .bool cg] #[.int .u64 vb, .int .u64 vt, .int .u64 va, .int .i64 vp, .int .i64 vy, .bool vg] zer6 24 24 24
  obtain ⟨W0, hW0⟩ : ∃ W0, ((W.alloc (.cells #[.int .u64 cb, .int .u64 ct, .int .u64 (an : Int), .int .i64 cp, .int .i64 cy, .bool cg] 24)).alloc (.cells #[.int .u64 vb, .int .u64 vt, .int .u64 va, .int .i64 vp, .int .i64 vy, .bool vg] 24)).alloc (.cells zer6 24) = W0 := ⟨_, rfl⟩
  rw [hW0] at b1 b2 b3 b4 b5
  have HW0 := Lib.hid hW0
  have HK := Lib.hid hK
  have HB := Lib.hid b1
  have HX := Lib.hid b2
  have HY := Lib.hid b3
  have HZ := Lib.hid b4
  have HM := Lib.hid h
  obtain ⟨⟨c0, c1, c2, c3, c4, c5⟩, -⟩ := boxN6 b2
  have q1 : (x == 0) = false := by simpa using hz
  have q2 : (x != 0) = true := by simpa using hz
  clear hz hc hv
  clear hW0 hK b1 b2 b3 b4 b5 h hx hal
  go_enter Tryz.func149, Tryz.ntmps149
  go_upto_region 1 with fail
  (try rw [HW0.out])
  clear HW0
  go_wp2_with fail
  refine (HK.out W0).mono ?_; rintro e w1 ⟨rfl, hb⟩
  have HB1 := Lib.hid (HB.out.trans (hb.mono HB.out.size))
  have hx1 := boxN_below HX.out hb
  have hy1 := boxN_below HY.out hb
  have hz1 := boxN_below HZ.out hb
  have HX1 := Lib.hid hx1
  have HZ1 := Lib.hid hz1
  have HY1 := Lib.hid hy1
  obtain ⟨⟨d0, d1, d2, d3, d4, d5⟩, -⟩ := boxN6 hx1
  obtain ⟨⟨e0, e1, e2, e3, e4, e5⟩, -⟩ := boxN6 hy1
  obtain ⟨⟨i0, i1, i2, i3, i4, i5⟩, j0, j1, j2, j3, j4, j5⟩ := boxN6 hz1
  clear hb hx1 hy1 hz1 c0 c1 c2 c3 c4 c5 HK
  go_wp2_with fail
  exact bodyPost_ret (v := .tuple #[.agg zer6, .int .i64 x]) (by simp [results, Tryz.results149, go_sem, *]) rfl ⟨rfl, below_set6 HB1.out (show W.heap.size ≤ W.heap.size + 2 by omega)⟩
set_option maxHeartbeats 2000000 in
theorem jump_align (W : World) (N A M : Nat) (F : Nat → Prop) (s : Mch) (h : McS W N A M F s) (rd : Nat) (hrd : rd < 32) (an : Nat) (cb ct cp cy : Int) (cg : Bool) (vb vt va vp vy : Int) (vg : Bool) (hc : FitC ⟨cb, ct, (an : Int), cp, cy, cg⟩) (hv : FitC ⟨vb, vt, va, vp, vy, vg⟩) (hx : checkP ⟨cb, ct, (an : Int), cp, cy, cg⟩ 4 4 = 0) (hz : an % 4 ≠ 0) :
    Calls Tryz.prog 149 #[.pointer (some ⟨A, 0, none⟩), .int .i64 (rd : Int), .agg #[.int .u64 cb, .int .u64 ct, .int .u64 (an : Int), .int .i64 cp, .int .i64 cy, .bool cg], .agg #[.int .u64 vb, .int .u64 vt, .int .u64 va, .int .i64 vp, .int .i64 vy, .bool vg]] W fun e w' => e = .returned (.tuple #[.agg zer6, .int .i64 31]) ∧ Below W.heap.size W w' := by
  have hK := ccheck_any ⟨cb, ct, (an : Int), cp, cy, cg⟩ hc 4 4 (by decide)
  rw [hx] at hK
  unfold capC at hK
  simp only [] at hK
  have hal : an < 18446744073709551616 := by have := hc.a1; simp only [] at this; omega
  obtain ⟨b1, b2, b3, b4, b5⟩ := boxes3 W #[.int .u64 cb, .int .u64 ct, .int .u64 (an : Int), .int .i64 cp, .int .i64 cy, .bool cg] #[.int .u64 vb, .int .u64 vt, .int .u64 va, .int .i64 vp, .int .i64 vy, .bool vg] zer6 24 24 24
  obtain ⟨W0, hW0⟩ : ∃ W0, ((W.alloc (.cells #[.int .u64 cb, .int .u64 ct, .int .u64 (an : Int), .int .i64 cp, .int .i64 cy, .bool cg] 24)).alloc (.cells #[.int .u64 vb, .int .u64 vt, .int .u64 va, .int .i64 vp, .int .i64 vy, .bool vg] 24)).alloc (.cells zer6 24) = W0 := ⟨_, rfl⟩
  rw [hW0] at b1 b2 b3 b4 b5
  have HW0 := Lib.hid hW0
  have HK := Lib.hid hK
  have HB := Lib.hid b1
  have HX := Lib.hid b2
  have HY := Lib.hid b3
  have HZ := Lib.hid b4
  have HM := Lib.hid h
  obtain ⟨⟨c0, c1, c2, c3, c4, c5⟩, -⟩ := boxN6 b2
  obtain ⟨r, hr⟩ : ∃ r : Nat, an % 4 = r := ⟨_, rfl⟩
  have q0 : (an : Int).tmod 4 = (r : Int) := by rw [Int.tmod_eq_emod_of_nonneg (by omega)]; omega
  have q3 : IntKind.u64.wrap (r : Int) = (r : Int) := by rw [IntKind.wrap_u64]; omega
  have q1 : ((r : Int) == 0) = false := by simp; omega
  have q2 : ((r : Int) != 0) = true := by simp; omega
  clear hz hr hc hv
  clear hW0 hK b1 b2 b3 b4 b5 h hx hal
  go_enter Tryz.func149, Tryz.ntmps149
  go_upto_region 1 with fail
  (try rw [HW0.out])
  clear HW0
  go_wp2_with fail
  refine (HK.out W0).mono ?_; rintro e w1 ⟨rfl, hb⟩
  have HB1 := Lib.hid (HB.out.trans (hb.mono HB.out.size))
  have hx1 := boxN_below HX.out hb
  have hy1 := boxN_below HY.out hb
  have hz1 := boxN_below HZ.out hb
  have HX1 := Lib.hid hx1
  have HZ1 := Lib.hid hz1
  have HY1 := Lib.hid hy1
  obtain ⟨⟨d0, d1, d2, d3, d4, d5⟩, -⟩ := boxN6 hx1
  obtain ⟨⟨e0, e1, e2, e3, e4, e5⟩, -⟩ := boxN6 hy1
  obtain ⟨⟨i0, i1, i2, i3, i4, i5⟩, j0, j1, j2, j3, j4, j5⟩ := boxN6 hz1
  clear hb hx1 hy1 hz1 c0 c1 c2 c3 c4 c5 HK
  go_wp2_with fail
  exact bodyPost_ret (v := .tuple #[.agg zer6, .int .i64 31]) (by simp [results, Tryz.results149, go_sem, *]) rfl ⟨rfl, below_set6 HB1.out (show W.heap.size ≤ W.heap.size + 2 by omega)⟩
set_option maxHeartbeats 2000000 in
theorem jump_go (W : World) (N A M : Nat) (F : Nat → Prop) (s : Mch) (h : McS W N A M F s) (rd : Nat) (hrd : rd < 32) (an : Nat) (cb ct cp cy : Int) (cg : Bool) (vb vt va vp vy : Int) (vg : Bool) (hc : FitC ⟨cb, ct, (an : Int), cp, cy, cg⟩) (hv : FitC ⟨vb, vt, va, vp, vy, vg⟩) (hx : checkP ⟨cb, ct, (an : Int), cp, cy, cg⟩ 4 4 = 0) (hz : an % 4 = 0) :
    Calls Tryz.prog 149 #[.pointer (some ⟨A, 0, none⟩), .int .i64 (rd : Int), .agg #[.int .u64 cb, .int .u64 ct, .int .u64 (an : Int), .int .i64 cp, .int .i64 cy, .bool cg], .agg #[.int .u64 vb, .int .u64 vt, .int .u64 va, .int .i64 vp, .int .i64 vy, .bool vg]] W fun e w' => e = .returned (.tuple #[.agg #[.int .u64 cb, .int .u64 ct, .int .u64 (an : Int), .int .i64 cp, .int .i64 cy, .bool cg], .int .i64 0]) ∧ McS w' N A M F ⟨s.pc, putP s.rs rd ⟨vb, vt, va, vp, vy, vg⟩, s.m⟩ ∧ McMv W w' F F A := by
  have HWR := Lib.hid (fun (w : World) (hb : Below W.heap.size W w) => mwrite_any w A M s.pc s.rs (h.mc.below hb) rd hrd ⟨vb, vt, va, vp, vy, vg⟩)
  unfold capC at HWR
  simp only [] at HWR
  have HFT := Lib.hid (And.intro h.fpc (putP_fit h.frs rd hv))
  have hK := ccheck_any ⟨cb, ct, (an : Int), cp, cy, cg⟩ hc 4 4 (by decide)
  rw [hx] at hK
  unfold capC at hK
  simp only [] at hK
  have hal : an < 18446744073709551616 := by have := hc.a1; simp only [] at this; omega
  obtain ⟨b1, b2, b3, b4, b5⟩ := boxes3 W #[.int .u64 cb, .int .u64 ct, .int .u64 (an : Int), .int .i64 cp, .int .i64 cy, .bool cg] #[.int .u64 vb, .int .u64 vt, .int .u64 va, .int .i64 vp, .int .i64 vy, .bool vg] zer6 24 24 24
  obtain ⟨W0, hW0⟩ : ∃ W0, ((W.alloc (.cells #[.int .u64 cb, .int .u64 ct, .int .u64 (an : Int), .int .i64 cp, .int .i64 cy, .bool cg] 24)).alloc (.cells #[.int .u64 vb, .int .u64 vt, .int .u64 va, .int .i64 vp, .int .i64 vy, .bool vg] 24)).alloc (.cells zer6 24) = W0 := ⟨_, rfl⟩
  rw [hW0] at b1 b2 b3 b4 b5
  have HW0 := Lib.hid hW0
  have HK := Lib.hid hK
  have HB := Lib.hid b1
  have HX := Lib.hid b2
  have HY := Lib.hid b3
  have HZ := Lib.hid b4
  have HM := Lib.hid h
  obtain ⟨⟨c0, c1, c2, c3, c4, c5⟩, -⟩ := boxN6 b2
  have q0 : (an : Int).tmod 4 = 0 := by rw [Int.tmod_eq_emod_of_nonneg (by omega)]; omega
  clear hz hc hv
  clear hW0 hK b1 b2 b3 b4 b5 h hx hal
  go_enter Tryz.func149, Tryz.ntmps149
  go_upto_region 1 with fail
  (try rw [HW0.out])
  clear HW0
  go_wp2_with fail
  refine (HK.out W0).mono ?_; rintro e w1 ⟨rfl, hb⟩
  have HB1 := Lib.hid (HB.out.trans (hb.mono HB.out.size))
  have hx1 := boxN_below HX.out hb
  have hy1 := boxN_below HY.out hb
  have hz1 := boxN_below HZ.out hb
  have HX1 := Lib.hid hx1
  have HZ1 := Lib.hid hz1
  have HY1 := Lib.hid hy1
  obtain ⟨⟨d0, d1, d2, d3, d4, d5⟩, -⟩ := boxN6 hx1
  obtain ⟨⟨e0, e1, e2, e3, e4, e5⟩, -⟩ := boxN6 hy1
  obtain ⟨⟨i0, i1, i2, i3, i4, i5⟩, j0, j1, j2, j3, j4, j5⟩ := boxN6 hz1
  clear hb hx1 hy1 hz1 c0 c1 c2 c3 c4 c5 HK
  go_wp2_with fail
  refine (HWR.out w1 HB1.out).mono ?_; rintro e w2 ⟨rfl, hm2, hk2⟩
  have hnA : ∀ q, W.heap.size ≤ q → ¬ q = A := fun q hq e => by have := HM.out.mc.lt; omega
  obtain ⟨⟨x0, x1, x2, x3, x4, x5⟩, -⟩ := boxN6 (HX1.out.kp hk2 HX1.out.lt (hnA _ (Nat.le_refl _)))
  have hz2 := HZ1.out.kp hk2 HZ1.out.lt (hnA _ (by omega))
  obtain ⟨⟨y0, y1, y2, y3, y4, y5⟩, f0, f1, f2, f3, f4, f5⟩ := boxN6 hz2
  obtain ⟨hm3, mv3⟩ := (HM.out.below HB1.out).mach hm2 hk2 HFT.out.1 HFT.out.2
  have HM3 := Lib.hid hm3
  have HV3 := Lib.hid ((McMv.of_below F A HB1.out).trans mv3 HM.out.mc.lt)
  have HZL := Lib.hid hz2.lt
  clear hm2 hk2 hm3 mv3 hz2 d0 d1 d2 d3 d4 d5 e0 e1 e2 e3 e4 e5 i0 i1 i2 i3 i4 i5 j0 j1 j2 j3 j4 j5 hnA
  go_wp2_with fail
  have hend := mc_off6 HM3.out HV3.out (R := W.heap.size + 2) (by omega) HM.out.mc.lt HM.out.own.lt (fun q => by have := HM.out.own.lt _ q; omega) (.int .u64 cb) (.int .u64 ct) (.int .u64 (an : Int)) (.int .i64 cp) (.int .i64 cy) (.bool cg)
  exact bodyPost_ret (v := .tuple #[.agg #[.int .u64 cb, .int .u64 ct, .int .u64 (an : Int), .int .i64 cp, .int .i64 cy, .bool cg], .int .i64 0]) (by simp [results, Tryz.results149, go_sem, *]) rfl ⟨rfl, hend.1, hend.2⟩
theorem jump_any (W : World) (N A M : Nat) (F : Nat → Prop) (s : Mch) (h : McS W N A M F s) (rd : Nat) (hrd : rd < 32) (c v : Cp) (hc : FitC c) (hv : FitC v) :
    Calls Tryz.prog 149 #[.pointer (some ⟨A, 0, none⟩), .int .i64 (rd : Int), .agg (capC c).toArray, .agg (capC v).toArray] W fun e w' => ∃ d : Cp, e = .returned (.tuple #[.agg (capC d).toArray, .int .i64 (jumpP c)]) ∧ ((jumpP c ≠ 0 ∧ Below W.heap.size W w') ∨ (jumpP c = 0 ∧ d = c ∧ McS w' N A M F ⟨s.pc, putP s.rs rd v, s.m⟩ ∧ McMv W w' F F A)) := by
  obtain ⟨cb, ct, ca, cp, cy, cg⟩ := c
  obtain ⟨vb, vt, va, vp, vy, vg⟩ := v
  obtain ⟨an, rfl⟩ : ∃ an : Nat, ca = (an : Int) := ⟨ca.toNat, by have := hc.a0; simp only [] at this; omega⟩
  by_cases hx : checkP ⟨cb, ct, (an : Int), cp, cy, cg⟩ 4 4 = 0
  · by_cases hz : an % 4 = 0
    · have e0 : jumpP ⟨cb, ct, (an : Int), cp, cy, cg⟩ = 0 := by
        unfold jumpP
        rw [if_neg (by simpa using hx), if_neg (by simp only []; omega)]
      rw [e0]
      exact (jump_go W N A M F s h rd hrd an cb ct cp cy cg vb vt va vp vy vg hc hv hx hz).mono fun e w' q => ⟨⟨cb, ct, (an : Int), cp, cy, cg⟩, q.1, Or.inr ⟨rfl, rfl, q.2⟩⟩
    · have e0 : jumpP ⟨cb, ct, (an : Int), cp, cy, cg⟩ = 31 := by
        unfold jumpP
        rw [if_neg (by simpa using hx), if_pos (by simp only []; omega)]
      rw [e0]
      exact (jump_align W N A M F s h rd hrd an cb ct cp cy cg vb vt va vp vy vg hc hv hx hz).mono fun e w' q => ⟨⟨0, 0, 0, 0, 0, false⟩, q.1, Or.inl ⟨by decide, q.2⟩⟩
  · have e0 : jumpP ⟨cb, ct, (an : Int), cp, cy, cg⟩ = checkP ⟨cb, ct, (an : Int), cp, cy, cg⟩ 4 4 := by
      unfold jumpP
      rw [if_pos (by simpa using hx)]
    rw [e0]
    exact (jump_bad W N A M F s h rd hrd an cb ct cp cy cg vb vt va vp vy vg hc hv _ rfl hx).mono fun e w' q => ⟨⟨0, 0, 0, 0, 0, false⟩, q.1, Or.inl ⟨hx, q.2⟩⟩
end Go.Proofs.YtegoddghfjfibaaGreatDoor

