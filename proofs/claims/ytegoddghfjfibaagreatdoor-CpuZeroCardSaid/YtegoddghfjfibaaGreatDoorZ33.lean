/- CuT -/
import Derived.Test.YtegoddghfjfibaaGreatDoorZ31
namespace Go.Proofs.YtegoddghfjfibaaGreatDoor
set_option linter.unusedVariables false
set_option linter.unusedSimpArgs false
open Go.Joins Go.ChangeShapes Go.WideShapes Go.ChangeAt Go.RowKit Go.Deep

/-- boxes in a world: the instruction, the result, where to go on -/
structure DoS (W w : World) (B6 : Nat) (XV NV : Array Value) : Prop where
  b : Below W.heap.size W w
  x : BoxN w W.heap.size XV
  z : BoxN w (W.heap.size + 1) zer6
  n : BoxN w B6 NV
  lt : W.heap.size + 1 < B6
theorem DoS.below {W w w' : World} {B6 : Nat} {XV NV : Array Value} (h : DoS W w B6 XV NV) (hb : Below w.heap.size w w') : DoS W w' B6 XV NV :=
  ⟨h.b.trans (hb.mono h.b.size), boxN_below h.x hb, boxN_below h.z hb, boxN_below h.n hb, h.lt⟩
theorem DoS.mv {W w w' : World} {N A M B6 : Nat} {F F' : Nat → Prop} {s : Mch} {XV NV : Array Value} (d : DoS W w B6 XV NV) (h : McS W N A M F s) (hm : McMv w w' F F' A) : BoxN w' W.heap.size XV ∧ BoxN w' (W.heap.size + 1) zer6 ∧ BoxN w' B6 NV :=
  ⟨McMv.box h d.b d.x (Nat.le_refl _) hm, McMv.box h d.b d.z (Nat.le_succ _) hm, McMv.box h d.b d.n (by have := d.lt; omega) hm⟩
theorem DoS.end_ {W w w' : World} {N A M B6 : Nat} {F F' : Nat → Prop} {s s' : Mch} {XV NV : Array Value} (d : DoS W w B6 XV NV) (h : McS W N A M F s) (hq : McS w' N A M F' s') (hm : McMv w w' F F' A) : McS w' N A M F' s' ∧ McMv W w' F F' A :=
  ⟨hq, (McMv.of_below F A d.b).trans hm h.mc.lt⟩
theorem DoS.nf {W w w' : World} {N A M B6 : Nat} {F F' : Nat → Prop} {s : Mch} {XV NV : Array Value} (d : DoS W w B6 XV NV) (h : McS W N A M F s) (hm : McMv w w' F F' A) : ∀ b, F' b → b ≠ W.heap.size + 1 := fun b hb e => by
  rcases hm.sub b hb with q | q
  · have := h.own.lt b q; omega
  · have := d.z.lt; omega
/-- the last store, into the result's box -/
theorem do_fin {W w : World} {N A M : Nat} {F F' : Nat → Prop} {s s' : Mch} (h : McS W N A M F s) (hq : McS w N A M F' s') (hm : McMv W w F F' A) (hf : ∀ b, F' b → b ≠ W.heap.size + 1) (v0 v1 v2 v3 v4 v5 : Value) :
    McS ((((((w.setCell ⟨W.heap.size + 1, 0, none⟩ v0).setCell ⟨W.heap.size + 1, 1, none⟩ v1).setCell ⟨W.heap.size + 1, 2, none⟩ v2).setCell ⟨W.heap.size + 1, 3, none⟩ v3).setCell ⟨W.heap.size + 1, 4, none⟩ v4).setCell ⟨W.heap.size + 1, 5, none⟩ v5) N A M F' s' ∧
    McMv W ((((((w.setCell ⟨W.heap.size + 1, 0, none⟩ v0).setCell ⟨W.heap.size + 1, 1, none⟩ v1).setCell ⟨W.heap.size + 1, 2, none⟩ v2).setCell ⟨W.heap.size + 1, 3, none⟩ v3).setCell ⟨W.heap.size + 1, 4, none⟩ v4).setCell ⟨W.heap.size + 1, 5, none⟩ v5) F F' A :=
  McMv.set6 (s := s) hq hm (by omega) h.mc.lt hf v0 v1 v2 v3 v4 v5
set_option maxHeartbeats 8000000 in
theorem do_r1 (W : World) (N A M : Nat) (F : Nat → Prop) (s : Mch) (h : McS W N A M F s) (nt : Is.NT W) (op rd r1 r2 : Nat) (n : Int) (o1 : 1 ≤ op) (o2 : op ≤ 82) (hrd : rd < 32) (h1 : r1 < 32) (h2 : r2 < 32) (hk : Is.kindO (op : Int) = 1) :
    Calls Tryz.prog 41 #[.pointer (some ⟨A, 0, none⟩), .agg #[.int .i64 (op : Int), .int .i64 (rd : Int), .int .i64 (r1 : Int), .int .i64 (r2 : Int), .int .i64 n]] W fun e w' => DoR W N A M F s ⟨aheadP s.pc 4, putP s.rs rd (reckonP ⟨op, rd, r1, r2, n⟩ s.rs), s.m⟩ 0 e w' := by
  have HA := Lib.hid (fun w (hb : Below W.heap.size W w) => ahead_any w A M s.pc s.rs (h.mc.below hb) 4)
  have HKD := Lib.hid (fun w (hb : Below W.heap.size W w) => Is.kind_any (op : Int) w (nt.on hb))
  rw [hk] at HKD
  have hkd : kindP ⟨op, rd, r1, r2, n⟩ = 1 ∨ kindP ⟨op, rd, r1, r2, n⟩ = 2 := by
    have := kindO_in op o1 o2
    rw [hk] at this
    exact Or.inl this.symm
  have hfv : FitC (reckonP ⟨op, rd, r1, r2, n⟩ s.rs) := fit_reckon h.frs ⟨op, rd, r1, r2, n⟩
  have HR := Lib.hid (fun w (hb : Below W.heap.size W w) => reckon_any w A M s.pc s.rs (h.mc.below hb) h.frs (nt.on hb) ⟨op, rd, r1, r2, n⟩ h1 h2 o1 o2 hkd)
  unfold insV at HR
  simp only [] at HR
  obtain ⟨v, hv⟩ : ∃ c, reckonP ⟨op, rd, r1, r2, n⟩ s.rs = c := ⟨_, rfl⟩
  rw [hv] at HR hfv ⊢
  have HWR := Lib.hid (fun w (hb : Below W.heap.size W w) => mwriteS_any w N A M F s (h.below hb) rd hrd v hfv)
  clear hv hfv
  obtain ⟨vb, vt, va, vp, vy, vg⟩ := v
  unfold capC at HR HWR
  simp only [] at HR HWR
  obtain ⟨nx, hnx⟩ : ∃ c, aheadP s.pc 4 = c := ⟨_, rfl⟩
  rw [hnx] at HA ⊢
  obtain ⟨nb, nt_, na, np, ny, ng⟩ := nx
  unfold capC at HA
  simp only [] at HA
  obtain ⟨b1, b2, b3, b4⟩ := boxes2 W #[.int .i64 (op : Int), .int .i64 (rd : Int), .int .i64 (r1 : Int), .int .i64 (r2 : Int), .int .i64 n] zer6 61 24
  obtain ⟨W0, hW0⟩ : ∃ W0, (W.alloc (.cells #[.int .i64 (op : Int), .int .i64 (rd : Int), .int .i64 (r1 : Int), .int .i64 (r2 : Int), .int .i64 n] 61)).alloc (.cells zer6 24) = W0 := ⟨_, rfl⟩
  rw [hW0] at b1 b2 b3 b4
  have HW0 := Lib.hid hW0
  have HB0 := Lib.hid b1
  have HX0 := Lib.hid b2
  have HZ0 := Lib.hid b3
  have HS0 := Lib.hid b4
  have HM := Lib.hid h
  clear hW0 b1 b2 b3 b4 h nt hnx hk
  go_enter Tryz.func41, Tryz.ntmps41
  go_upto_region 1 with fail
  (try rw [HW0.out])
  clear HW0
  go_wp2_with fail
  refine (HA.out W0 HB0.out).mono ?_; rintro e w1 ⟨rfl, hb⟩
  have HB1 := Lib.hid (HB0.out.trans (hb.mono HB0.out.size))
  have HX1 := Lib.hid (boxN_below HX0.out hb)
  have HZ1 := Lib.hid (boxN_below HZ0.out hb)
  have HL1 : Hid (W.heap.size + 1 < w1.heap.size) := Lib.hid HZ1.out.lt
  clear hb HA HB0 HX0 HZ0 HS0
  go_upto_region 2 with fail
  obtain ⟨w2, hw2⟩ : ∃ w2, w1.alloc (.cells #[.int .u64 nb, .int .u64 nt_, .int .u64 na, .int .i64 np, .int .i64 ny, .bool ng] 24) = w2 := ⟨_, rfl⟩
  have hba : Below w1.heap.size w1 w2 := by rw [← hw2]; exact bAlloc (Below.refl _ _) _
  have hX2 : BoxN w2 w1.heap.size #[.int .u64 nb, .int .u64 nt_, .int .u64 na, .int .i64 np, .int .i64 ny, .bool ng] := by rw [← hw2]; exact BoxN.new _ _ _
  rw [hw2]
  have HD2 : Hid (DoS W w2 w1.heap.size #[.int .i64 (op : Int), .int .i64 (rd : Int), .int .i64 (r1 : Int), .int .i64 (r2 : Int), .int .i64 n] #[.int .u64 nb, .int .u64 nt_, .int .u64 na, .int .i64 np, .int .i64 ny, .bool ng]) := Lib.hid ⟨HB1.out.trans (hba.mono HB1.out.size), boxN_below HX1.out hba, boxN_below HZ1.out hba, hX2, HL1.out⟩
  obtain ⟨B6, hB6⟩ : ∃ b, w1.heap.size = b := ⟨_, rfl⟩
  rw [hB6] at HD2 ⊢
  have x0 : w2.cell? ⟨W.heap.size, 0, none⟩ = some (.int .i64 (op : Int)) := HD2.out.x.cell 0
  clear hw2 hba hX2 hB6 HB1 HX1 HZ1 HL1
  go_wp2_with fail
  refine (HKD.out w2 HD2.out.b).mono ?_; rintro e w3 ⟨rfl, hb3⟩
  have HD := Lib.hid (HD2.out.below hb3)
  clear hb3 HD2 HKD x0
  have HSX := Lib.hid (fun (w : World) (hb : Below w3.heap.size w3 w) => (show w.cell? ⟨W.heap.size, 0, none⟩ = some (.int .i64 (op : Int)) ∧ w.cell? ⟨W.heap.size, 1, none⟩ = some (.int .i64 (rd : Int)) ∧ w.cell? ⟨W.heap.size, 2, none⟩ = some (.int .i64 (r1 : Int)) ∧ w.cell? ⟨W.heap.size, 3, none⟩ = some (.int .i64 (r2 : Int)) ∧ w.cell? ⟨W.heap.size, 4, none⟩ = some (.int .i64 n) from ⟨(boxN_below HD.out.x hb).cell 0, (boxN_below HD.out.x hb).cell 1, (boxN_below HD.out.x hb).cell 2, (boxN_below HD.out.x hb).cell 3, (boxN_below HD.out.x hb).cell 4⟩))
  have HN0 := Lib.hid (Below.refl w3.heap.size w3)
  have HB3 := Lib.hid HD.out.b
  go_upto_region 5 with fail
  go_region_held3 (fun W1 => W1.cell? ⟨W.heap.size, 0, none⟩ = some (.int .i64 (op : Int)) ∧ W1.cell? ⟨W.heap.size, 1, none⟩ = some (.int .i64 (rd : Int)) ∧ W1.cell? ⟨W.heap.size, 2, none⟩ = some (.int .i64 (r1 : Int)) ∧ W1.cell? ⟨W.heap.size, 3, none⟩ = some (.int .i64 (r2 : Int)) ∧ W1.cell? ⟨W.heap.size, 4, none⟩ = some (.int .i64 n))
    (first | with_reducible exact HS6.out | exact HSX.out _ (by first | ((repeat (first | with_reducible exact HN6.out | with_reducible exact HN5.out | with_reducible exact HN0.out | with_reducible refine Below.drew ?_)); done) | fail))
    (first
      | (go_at_call 91; (with_reducible refine (HR.out _ (by first | exact HB3.out | exact Below.drew HB3.out | exact HB5.out | exact HB6.out)).mono ?_); rintro e W5 ⟨rfl, hl5⟩; have HN5 : Hid (Below w3.heap.size w3 W5) := Lib.hid (by first | exact undrewB hl5 | exact hl5); have HB5 := Lib.hid (HB3.out.trans (HN5.out.mono HB3.out.size)); clear hl5)
      | (go_at_call 90; (with_reducible refine (HWR.out _ HB5.out).mono ?_); rintro e W6 ⟨rfl, hq, hm⟩; have HD6 := Lib.hid (HD.out.below HN5.out); have hx6 := (HD6.out.mv HM.out hm).1; have HS6 : Hid (W6.cell? ⟨W.heap.size, 0, none⟩ = some (.int .i64 (op : Int)) ∧ W6.cell? ⟨W.heap.size, 1, none⟩ = some (.int .i64 (rd : Int)) ∧ W6.cell? ⟨W.heap.size, 2, none⟩ = some (.int .i64 (r1 : Int)) ∧ W6.cell? ⟨W.heap.size, 3, none⟩ = some (.int .i64 (r2 : Int)) ∧ W6.cell? ⟨W.heap.size, 4, none⟩ = some (.int .i64 n)) := Lib.hid ⟨hx6.cell 0, hx6.cell 1, hx6.cell 2, hx6.cell 3, hx6.cell 4⟩; have HR6 := Lib.hid (HD6.out.end_ HM.out hq hm); have HZ6 := Lib.hid (HD6.out.mv HM.out hm).2; have HF6 := Lib.hid (HD6.out.nf HM.out hm); clear hq hm hx6))
  obtain ⟨⟨i0, i1, i2, i3, i4, i5⟩, j0, j1, j2, j3, j4, j5⟩ := boxN6 HZ6.out.1
  obtain ⟨⟨e0, e1, e2, e3, e4, e5⟩, -⟩ := boxN6 HZ6.out.2
  go_wp2_with fail
  refine bodyPost_ret (v := .tuple #[.agg #[.int .u64 nb, .int .u64 nt_, .int .u64 na, .int .i64 np, .int .i64 ny, .bool ng], .int .i64 0]) (by simp [results, Tryz.results41, go_sem, *]) rfl ?_
  have hs := do_fin (s := s) HM.out HR6.out.1 HR6.out.2 HF6.out (.int .u64 nb) (.int .u64 nt_) (.int .u64 na) (.int .i64 np) (.int .i64 ny) (.bool ng)
  exact ⟨⟨nb, nt_, na, np, ny, ng⟩, F, rfl, Or.inr ⟨rfl, rfl, hs.1⟩, hs.2⟩
set_option maxHeartbeats 8000000 in
theorem do_r2 (W : World) (N A M : Nat) (F : Nat → Prop) (s : Mch) (h : McS W N A M F s) (nt : Is.NT W) (op rd r1 r2 : Nat) (n : Int) (o1 : 1 ≤ op) (o2 : op ≤ 82) (hrd : rd < 32) (h1 : r1 < 32) (h2 : r2 < 32) (hk : Is.kindO (op : Int) = 2) :
    Calls Tryz.prog 41 #[.pointer (some ⟨A, 0, none⟩), .agg #[.int .i64 (op : Int), .int .i64 (rd : Int), .int .i64 (r1 : Int), .int .i64 (r2 : Int), .int .i64 n]] W fun e w' => DoR W N A M F s ⟨aheadP s.pc 4, putP s.rs rd (reckonP ⟨op, rd, r1, r2, n⟩ s.rs), s.m⟩ 0 e w' := by
  have HA := Lib.hid (fun w (hb : Below W.heap.size W w) => ahead_any w A M s.pc s.rs (h.mc.below hb) 4)
  have HKD := Lib.hid (fun w (hb : Below W.heap.size W w) => Is.kind_any (op : Int) w (nt.on hb))
  rw [hk] at HKD
  have hkd : kindP ⟨op, rd, r1, r2, n⟩ = 1 ∨ kindP ⟨op, rd, r1, r2, n⟩ = 2 := by
    have := kindO_in op o1 o2
    rw [hk] at this
    exact Or.inr this.symm
  have hfv : FitC (reckonP ⟨op, rd, r1, r2, n⟩ s.rs) := fit_reckon h.frs ⟨op, rd, r1, r2, n⟩
  have HR := Lib.hid (fun w (hb : Below W.heap.size W w) => reckon_any w A M s.pc s.rs (h.mc.below hb) h.frs (nt.on hb) ⟨op, rd, r1, r2, n⟩ h1 h2 o1 o2 hkd)
  unfold insV at HR
  simp only [] at HR
  obtain ⟨v, hv⟩ : ∃ c, reckonP ⟨op, rd, r1, r2, n⟩ s.rs = c := ⟨_, rfl⟩
  rw [hv] at HR hfv ⊢
  have HWR := Lib.hid (fun w (hb : Below W.heap.size W w) => mwriteS_any w N A M F s (h.below hb) rd hrd v hfv)
  clear hv hfv
  obtain ⟨vb, vt, va, vp, vy, vg⟩ := v
  unfold capC at HR HWR
  simp only [] at HR HWR
  obtain ⟨nx, hnx⟩ : ∃ c, aheadP s.pc 4 = c := ⟨_, rfl⟩
  rw [hnx] at HA ⊢
  obtain ⟨nb, nt_, na, np, ny, ng⟩ := nx
  unfold capC at HA
  simp only [] at HA
  obtain ⟨b1, b2, b3, b4⟩ := boxes2 W #[.int .i64 (op : Int), .int .i64 (rd : Int), .int .i64 (r1 : Int), .int .i64 (r2 : Int), .int .i64 n] zer6 61 24
  obtain ⟨W0, hW0⟩ : ∃ W0, (W.alloc (.cells #[.int .i64 (op : Int), .int .i64 (rd : Int), .int .i64 (r1 : Int), .int .i64 (r2 : Int), .int .i64 n] 61)).alloc (.cells zer6 24) = W0 := ⟨_, rfl⟩
  rw [hW0] at b1 b2 b3 b4
  have HW0 := Lib.hid hW0
  have HB0 := Lib.hid b1
  have HX0 := Lib.hid b2
  have HZ0 := Lib.hid b3
  have HS0 := Lib.hid b4
  have HM := Lib.hid h
  clear hW0 b1 b2 b3 b4 h nt hnx hk
  go_enter Tryz.func41, Tryz.ntmps41
  go_upto_region 1 with fail
  (try rw [HW0.out])
  clear HW0
  go_wp2_with fail
  refine (HA.out W0 HB0.out).mono ?_; rintro e w1 ⟨rfl, hb⟩
  have HB1 := Lib.hid (HB0.out.trans (hb.mono HB0.out.size))
  have HX1 := Lib.hid (boxN_below HX0.out hb)
  have HZ1 := Lib.hid (boxN_below HZ0.out hb)
  have HL1 : Hid (W.heap.size + 1 < w1.heap.size) := Lib.hid HZ1.out.lt
  clear hb HA HB0 HX0 HZ0 HS0
  go_upto_region 2 with fail
  obtain ⟨w2, hw2⟩ : ∃ w2, w1.alloc (.cells #[.int .u64 nb, .int .u64 nt_, .int .u64 na, .int .i64 np, .int .i64 ny, .bool ng] 24) = w2 := ⟨_, rfl⟩
  have hba : Below w1.heap.size w1 w2 := by rw [← hw2]; exact bAlloc (Below.refl _ _) _
  have hX2 : BoxN w2 w1.heap.size #[.int .u64 nb, .int .u64 nt_, .int .u64 na, .int .i64 np, .int .i64 ny, .bool ng] := by rw [← hw2]; exact BoxN.new _ _ _
  rw [hw2]
  have HD2 : Hid (DoS W w2 w1.heap.size #[.int .i64 (op : Int), .int .i64 (rd : Int), .int .i64 (r1 : Int), .int .i64 (r2 : Int), .int .i64 n] #[.int .u64 nb, .int .u64 nt_, .int .u64 na, .int .i64 np, .int .i64 ny, .bool ng]) := Lib.hid ⟨HB1.out.trans (hba.mono HB1.out.size), boxN_below HX1.out hba, boxN_below HZ1.out hba, hX2, HL1.out⟩
  obtain ⟨B6, hB6⟩ : ∃ b, w1.heap.size = b := ⟨_, rfl⟩
  rw [hB6] at HD2 ⊢
  have x0 : w2.cell? ⟨W.heap.size, 0, none⟩ = some (.int .i64 (op : Int)) := HD2.out.x.cell 0
  clear hw2 hba hX2 hB6 HB1 HX1 HZ1 HL1
  go_wp2_with fail
  refine (HKD.out w2 HD2.out.b).mono ?_; rintro e w3 ⟨rfl, hb3⟩
  have HD := Lib.hid (HD2.out.below hb3)
  clear hb3 HD2 HKD x0
  have HSX := Lib.hid (fun (w : World) (hb : Below w3.heap.size w3 w) => (show w.cell? ⟨W.heap.size, 0, none⟩ = some (.int .i64 (op : Int)) ∧ w.cell? ⟨W.heap.size, 1, none⟩ = some (.int .i64 (rd : Int)) ∧ w.cell? ⟨W.heap.size, 2, none⟩ = some (.int .i64 (r1 : Int)) ∧ w.cell? ⟨W.heap.size, 3, none⟩ = some (.int .i64 (r2 : Int)) ∧ w.cell? ⟨W.heap.size, 4, none⟩ = some (.int .i64 n) from ⟨(boxN_below HD.out.x hb).cell 0, (boxN_below HD.out.x hb).cell 1, (boxN_below HD.out.x hb).cell 2, (boxN_below HD.out.x hb).cell 3, (boxN_below HD.out.x hb).cell 4⟩))
  have HN0 := Lib.hid (Below.refl w3.heap.size w3)
  have HB3 := Lib.hid HD.out.b
  go_upto_region 5 with fail
  go_region_held3 (fun W1 => W1.cell? ⟨W.heap.size, 0, none⟩ = some (.int .i64 (op : Int)) ∧ W1.cell? ⟨W.heap.size, 1, none⟩ = some (.int .i64 (rd : Int)) ∧ W1.cell? ⟨W.heap.size, 2, none⟩ = some (.int .i64 (r1 : Int)) ∧ W1.cell? ⟨W.heap.size, 3, none⟩ = some (.int .i64 (r2 : Int)) ∧ W1.cell? ⟨W.heap.size, 4, none⟩ = some (.int .i64 n))
    (first | with_reducible exact HS6.out | exact HSX.out _ (by first | ((repeat (first | with_reducible exact HN6.out | with_reducible exact HN5.out | with_reducible exact HN0.out | with_reducible refine Below.drew ?_)); done) | fail))
    (first
      | (go_at_call 91; (with_reducible refine (HR.out _ (by first | exact HB3.out | exact Below.drew HB3.out | exact HB5.out | exact HB6.out)).mono ?_); rintro e W5 ⟨rfl, hl5⟩; have HN5 : Hid (Below w3.heap.size w3 W5) := Lib.hid (by first | exact undrewB hl5 | exact hl5); have HB5 := Lib.hid (HB3.out.trans (HN5.out.mono HB3.out.size)); clear hl5)
      | (go_at_call 90; (with_reducible refine (HWR.out _ HB5.out).mono ?_); rintro e W6 ⟨rfl, hq, hm⟩; have HD6 := Lib.hid (HD.out.below HN5.out); have hx6 := (HD6.out.mv HM.out hm).1; have HS6 : Hid (W6.cell? ⟨W.heap.size, 0, none⟩ = some (.int .i64 (op : Int)) ∧ W6.cell? ⟨W.heap.size, 1, none⟩ = some (.int .i64 (rd : Int)) ∧ W6.cell? ⟨W.heap.size, 2, none⟩ = some (.int .i64 (r1 : Int)) ∧ W6.cell? ⟨W.heap.size, 3, none⟩ = some (.int .i64 (r2 : Int)) ∧ W6.cell? ⟨W.heap.size, 4, none⟩ = some (.int .i64 n)) := Lib.hid ⟨hx6.cell 0, hx6.cell 1, hx6.cell 2, hx6.cell 3, hx6.cell 4⟩; have HR6 := Lib.hid (HD6.out.end_ HM.out hq hm); have HZ6 := Lib.hid (HD6.out.mv HM.out hm).2; have HF6 := Lib.hid (HD6.out.nf HM.out hm); clear hq hm hx6))
  obtain ⟨⟨i0, i1, i2, i3, i4, i5⟩, j0, j1, j2, j3, j4, j5⟩ := boxN6 HZ6.out.1
  obtain ⟨⟨e0, e1, e2, e3, e4, e5⟩, -⟩ := boxN6 HZ6.out.2
  go_wp2_with fail
  refine bodyPost_ret (v := .tuple #[.agg #[.int .u64 nb, .int .u64 nt_, .int .u64 na, .int .i64 np, .int .i64 ny, .bool ng], .int .i64 0]) (by simp [results, Tryz.results41, go_sem, *]) rfl ?_
  have hs := do_fin (s := s) HM.out HR6.out.1 HR6.out.2 HF6.out (.int .u64 nb) (.int .u64 nt_) (.int .u64 na) (.int .i64 np) (.int .i64 ny) (.bool ng)
  exact ⟨⟨nb, nt_, na, np, ny, ng⟩, F, rfl, Or.inr ⟨rfl, rfl, hs.1⟩, hs.2⟩
set_option maxHeartbeats 8000000 in
theorem do_ask (W : World) (N A M : Nat) (F : Nat → Prop) (s : Mch) (h : McS W N A M F s) (nt : Is.NT W) (op rd r1 r2 : Nat) (n : Int) (o1 : 1 ≤ op) (o2 : op ≤ 82) (hrd : rd < 32) (h1 : r1 < 32) (h2 : r2 < 32) (hk : Is.kindO (op : Int) = 8) :
    Calls Tryz.prog 41 #[.pointer (some ⟨A, 0, none⟩), .agg #[.int .i64 (op : Int), .int .i64 (rd : Int), .int .i64 (r1 : Int), .int .i64 (r2 : Int), .int .i64 n]] W fun e w' => DoR W N A M F s ⟨aheadP s.pc 4, putP s.rs rd (askP ⟨op, rd, r1, r2, n⟩ s.rs), s.m⟩ 0 e w' := by
  have HA := Lib.hid (fun w (hb : Below W.heap.size W w) => ahead_any w A M s.pc s.rs (h.mc.below hb) 4)
  have HKD := Lib.hid (fun w (hb : Below W.heap.size W w) => Is.kind_any (op : Int) w (nt.on hb))
  rw [hk] at HKD
  have hfv : FitC (askP ⟨op, rd, r1, r2, n⟩ s.rs) := fit_ask h.frs ⟨op, rd, r1, r2, n⟩
  have HR := Lib.hid (fun w (hb : Below W.heap.size W w) => ask_any w A M s.pc s.rs (h.mc.below hb) h.frs (nt.on hb) ⟨op, rd, r1, r2, n⟩ h1)
  unfold insV at HR
  simp only [] at HR
  obtain ⟨v, hv⟩ : ∃ c, askP ⟨op, rd, r1, r2, n⟩ s.rs = c := ⟨_, rfl⟩
  rw [hv] at HR hfv ⊢
  have HWR := Lib.hid (fun w (hb : Below W.heap.size W w) => mwriteS_any w N A M F s (h.below hb) rd hrd v hfv)
  clear hv hfv
  obtain ⟨vb, vt, va, vp, vy, vg⟩ := v
  unfold capC at HR HWR
  simp only [] at HR HWR
  obtain ⟨nx, hnx⟩ : ∃ c, aheadP s.pc 4 = c := ⟨_, rfl⟩
  rw [hnx] at HA ⊢
  obtain ⟨nb, nt_, na, np, ny, ng⟩ := nx
  unfold capC at HA
  simp only [] at HA
  obtain ⟨b1, b2, b3, b4⟩ := boxes2 W #[.int .i64 (op : Int), .int .i64 (rd : Int), .int .i64 (r1 : Int), .int .i64 (r2 : Int), .int .i64 n] zer6 61 24
  obtain ⟨W0, hW0⟩ : ∃ W0, (W.alloc (.cells #[.int .i64 (op : Int), .int .i64 (rd : Int), .int .i64 (r1 : Int), .int .i64 (r2 : Int), .int .i64 n] 61)).alloc (.cells zer6 24) = W0 := ⟨_, rfl⟩
  rw [hW0] at b1 b2 b3 b4
  have HW0 := Lib.hid hW0
  have HB0 := Lib.hid b1
  have HX0 := Lib.hid b2
  have HZ0 := Lib.hid b3
  have HS0 := Lib.hid b4
  have HM := Lib.hid h
  clear hW0 b1 b2 b3 b4 h nt hnx hk
  go_enter Tryz.func41, Tryz.ntmps41
  go_upto_region 1 with fail
  (try rw [HW0.out])
  clear HW0
  go_wp2_with fail
  refine (HA.out W0 HB0.out).mono ?_; rintro e w1 ⟨rfl, hb⟩
  have HB1 := Lib.hid (HB0.out.trans (hb.mono HB0.out.size))
  have HX1 := Lib.hid (boxN_below HX0.out hb)
  have HZ1 := Lib.hid (boxN_below HZ0.out hb)
  have HL1 : Hid (W.heap.size + 1 < w1.heap.size) := Lib.hid HZ1.out.lt
  clear hb HA HB0 HX0 HZ0 HS0
  go_upto_region 2 with fail
  obtain ⟨w2, hw2⟩ : ∃ w2, w1.alloc (.cells #[.int .u64 nb, .int .u64 nt_, .int .u64 na, .int .i64 np, .int .i64 ny, .bool ng] 24) = w2 := ⟨_, rfl⟩
  have hba : Below w1.heap.size w1 w2 := by rw [← hw2]; exact bAlloc (Below.refl _ _) _
  have hX2 : BoxN w2 w1.heap.size #[.int .u64 nb, .int .u64 nt_, .int .u64 na, .int .i64 np, .int .i64 ny, .bool ng] := by rw [← hw2]; exact BoxN.new _ _ _
  rw [hw2]
  have HD2 : Hid (DoS W w2 w1.heap.size #[.int .i64 (op : Int), .int .i64 (rd : Int), .int .i64 (r1 : Int), .int .i64 (r2 : Int), .int .i64 n] #[.int .u64 nb, .int .u64 nt_, .int .u64 na, .int .i64 np, .int .i64 ny, .bool ng]) := Lib.hid ⟨HB1.out.trans (hba.mono HB1.out.size), boxN_below HX1.out hba, boxN_below HZ1.out hba, hX2, HL1.out⟩
  obtain ⟨B6, hB6⟩ : ∃ b, w1.heap.size = b := ⟨_, rfl⟩
  rw [hB6] at HD2 ⊢
  have x0 : w2.cell? ⟨W.heap.size, 0, none⟩ = some (.int .i64 (op : Int)) := HD2.out.x.cell 0
  clear hw2 hba hX2 hB6 HB1 HX1 HZ1 HL1
  go_wp2_with fail
  refine (HKD.out w2 HD2.out.b).mono ?_; rintro e w3 ⟨rfl, hb3⟩
  have HD := Lib.hid (HD2.out.below hb3)
  clear hb3 HD2 HKD x0
  have HSX := Lib.hid (fun (w : World) (hb : Below w3.heap.size w3 w) => (show w.cell? ⟨W.heap.size, 0, none⟩ = some (.int .i64 (op : Int)) ∧ w.cell? ⟨W.heap.size, 1, none⟩ = some (.int .i64 (rd : Int)) ∧ w.cell? ⟨W.heap.size, 2, none⟩ = some (.int .i64 (r1 : Int)) ∧ w.cell? ⟨W.heap.size, 3, none⟩ = some (.int .i64 (r2 : Int)) ∧ w.cell? ⟨W.heap.size, 4, none⟩ = some (.int .i64 n) from ⟨(boxN_below HD.out.x hb).cell 0, (boxN_below HD.out.x hb).cell 1, (boxN_below HD.out.x hb).cell 2, (boxN_below HD.out.x hb).cell 3, (boxN_below HD.out.x hb).cell 4⟩))
  have HN0 := Lib.hid (Below.refl w3.heap.size w3)
  have HB3 := Lib.hid HD.out.b
  go_upto_region 7 with fail
  go_region_held3 (fun W1 => W1.cell? ⟨W.heap.size, 0, none⟩ = some (.int .i64 (op : Int)) ∧ W1.cell? ⟨W.heap.size, 1, none⟩ = some (.int .i64 (rd : Int)) ∧ W1.cell? ⟨W.heap.size, 2, none⟩ = some (.int .i64 (r1 : Int)) ∧ W1.cell? ⟨W.heap.size, 3, none⟩ = some (.int .i64 (r2 : Int)) ∧ W1.cell? ⟨W.heap.size, 4, none⟩ = some (.int .i64 n))
    (first | with_reducible exact HS6.out | exact HSX.out _ (by first | ((repeat (first | with_reducible exact HN6.out | with_reducible exact HN5.out | with_reducible exact HN0.out | with_reducible refine Below.drew ?_)); done) | fail))
    (first
      | (go_at_call 92; (with_reducible refine (HR.out _ (by first | exact HB3.out | exact Below.drew HB3.out | exact HB5.out | exact HB6.out)).mono ?_); rintro e W5 ⟨rfl, hl5⟩; have HN5 : Hid (Below w3.heap.size w3 W5) := Lib.hid (by first | exact undrewB hl5 | exact hl5); have HB5 := Lib.hid (HB3.out.trans (HN5.out.mono HB3.out.size)); clear hl5)
      | (go_at_call 90; (with_reducible refine (HWR.out _ HB5.out).mono ?_); rintro e W6 ⟨rfl, hq, hm⟩; have HD6 := Lib.hid (HD.out.below HN5.out); have hx6 := (HD6.out.mv HM.out hm).1; have HS6 : Hid (W6.cell? ⟨W.heap.size, 0, none⟩ = some (.int .i64 (op : Int)) ∧ W6.cell? ⟨W.heap.size, 1, none⟩ = some (.int .i64 (rd : Int)) ∧ W6.cell? ⟨W.heap.size, 2, none⟩ = some (.int .i64 (r1 : Int)) ∧ W6.cell? ⟨W.heap.size, 3, none⟩ = some (.int .i64 (r2 : Int)) ∧ W6.cell? ⟨W.heap.size, 4, none⟩ = some (.int .i64 n)) := Lib.hid ⟨hx6.cell 0, hx6.cell 1, hx6.cell 2, hx6.cell 3, hx6.cell 4⟩; have HR6 := Lib.hid (HD6.out.end_ HM.out hq hm); have HZ6 := Lib.hid (HD6.out.mv HM.out hm).2; have HF6 := Lib.hid (HD6.out.nf HM.out hm); clear hq hm hx6))
  obtain ⟨⟨i0, i1, i2, i3, i4, i5⟩, j0, j1, j2, j3, j4, j5⟩ := boxN6 HZ6.out.1
  obtain ⟨⟨e0, e1, e2, e3, e4, e5⟩, -⟩ := boxN6 HZ6.out.2
  go_wp2_with fail
  refine bodyPost_ret (v := .tuple #[.agg #[.int .u64 nb, .int .u64 nt_, .int .u64 na, .int .i64 np, .int .i64 ny, .bool ng], .int .i64 0]) (by simp [results, Tryz.results41, go_sem, *]) rfl ?_
  have hs := do_fin (s := s) HM.out HR6.out.1 HR6.out.2 HF6.out (.int .u64 nb) (.int .u64 nt_) (.int .u64 na) (.int .i64 np) (.int .i64 ny) (.bool ng)
  exact ⟨⟨nb, nt_, na, np, ny, ng⟩, F, rfl, Or.inr ⟨rfl, rfl, hs.1⟩, hs.2⟩
set_option maxHeartbeats 8000000 in
theorem do_high (W : World) (N A M : Nat) (F : Nat → Prop) (s : Mch) (h : McS W N A M F s) (nt : Is.NT W) (op rd r1 r2 : Nat) (n : Int) (o1 : 1 ≤ op) (o2 : op ≤ 82) (hrd : rd < 32) (h1 : r1 < 32) (h2 : r2 < 32) (hk : Is.kindO (op : Int) = 6) :
    Calls Tryz.prog 41 #[.pointer (some ⟨A, 0, none⟩), .agg #[.int .i64 (op : Int), .int .i64 (rd : Int), .int .i64 (r1 : Int), .int .i64 (r2 : Int), .int .i64 n]] W fun e w' => DoR W N A M F s ⟨aheadP s.pc 4, putP s.rs rd (highP ⟨op, rd, r1, r2, n⟩ s.pc), s.m⟩ 0 e w' := by
  have HA := Lib.hid (fun w (hb : Below W.heap.size W w) => ahead_any w A M s.pc s.rs (h.mc.below hb) 4)
  have HKD := Lib.hid (fun w (hb : Below W.heap.size W w) => Is.kind_any (op : Int) w (nt.on hb))
  rw [hk] at HKD
  have hfv : FitC (highP ⟨op, rd, r1, r2, n⟩ s.pc) := fit_high h.fpc ⟨op, rd, r1, r2, n⟩
  have HR := Lib.hid (fun w (hb : Below W.heap.size W w) => mhigh_any w A M s.pc s.rs (h.mc.below hb) (nt.on hb) ⟨op, rd, r1, r2, n⟩)
  unfold insV at HR
  simp only [] at HR
  obtain ⟨v, hv⟩ : ∃ c, highP ⟨op, rd, r1, r2, n⟩ s.pc = c := ⟨_, rfl⟩
  rw [hv] at HR hfv ⊢
  have HWR := Lib.hid (fun w (hb : Below W.heap.size W w) => mwriteS_any w N A M F s (h.below hb) rd hrd v hfv)
  clear hv hfv
  obtain ⟨vb, vt, va, vp, vy, vg⟩ := v
  unfold capC at HR HWR
  simp only [] at HR HWR
  obtain ⟨nx, hnx⟩ : ∃ c, aheadP s.pc 4 = c := ⟨_, rfl⟩
  rw [hnx] at HA ⊢
  obtain ⟨nb, nt_, na, np, ny, ng⟩ := nx
  unfold capC at HA
  simp only [] at HA
  obtain ⟨b1, b2, b3, b4⟩ := boxes2 W #[.int .i64 (op : Int), .int .i64 (rd : Int), .int .i64 (r1 : Int), .int .i64 (r2 : Int), .int .i64 n] zer6 61 24
  obtain ⟨W0, hW0⟩ : ∃ W0, (W.alloc (.cells #[.int .i64 (op : Int), .int .i64 (rd : Int), .int .i64 (r1 : Int), .int .i64 (r2 : Int), .int .i64 n] 61)).alloc (.cells zer6 24) = W0 := ⟨_, rfl⟩
  rw [hW0] at b1 b2 b3 b4
  have HW0 := Lib.hid hW0
  have HB0 := Lib.hid b1
  have HX0 := Lib.hid b2
  have HZ0 := Lib.hid b3
  have HS0 := Lib.hid b4
  have HM := Lib.hid h
  clear hW0 b1 b2 b3 b4 h nt hnx hk
  go_enter Tryz.func41, Tryz.ntmps41
  go_upto_region 1 with fail
  (try rw [HW0.out])
  clear HW0
  go_wp2_with fail
  refine (HA.out W0 HB0.out).mono ?_; rintro e w1 ⟨rfl, hb⟩
  have HB1 := Lib.hid (HB0.out.trans (hb.mono HB0.out.size))
  have HX1 := Lib.hid (boxN_below HX0.out hb)
  have HZ1 := Lib.hid (boxN_below HZ0.out hb)
  have HL1 : Hid (W.heap.size + 1 < w1.heap.size) := Lib.hid HZ1.out.lt
  clear hb HA HB0 HX0 HZ0 HS0
  go_upto_region 2 with fail
  obtain ⟨w2, hw2⟩ : ∃ w2, w1.alloc (.cells #[.int .u64 nb, .int .u64 nt_, .int .u64 na, .int .i64 np, .int .i64 ny, .bool ng] 24) = w2 := ⟨_, rfl⟩
  have hba : Below w1.heap.size w1 w2 := by rw [← hw2]; exact bAlloc (Below.refl _ _) _
  have hX2 : BoxN w2 w1.heap.size #[.int .u64 nb, .int .u64 nt_, .int .u64 na, .int .i64 np, .int .i64 ny, .bool ng] := by rw [← hw2]; exact BoxN.new _ _ _
  rw [hw2]
  have HD2 : Hid (DoS W w2 w1.heap.size #[.int .i64 (op : Int), .int .i64 (rd : Int), .int .i64 (r1 : Int), .int .i64 (r2 : Int), .int .i64 n] #[.int .u64 nb, .int .u64 nt_, .int .u64 na, .int .i64 np, .int .i64 ny, .bool ng]) := Lib.hid ⟨HB1.out.trans (hba.mono HB1.out.size), boxN_below HX1.out hba, boxN_below HZ1.out hba, hX2, HL1.out⟩
  obtain ⟨B6, hB6⟩ : ∃ b, w1.heap.size = b := ⟨_, rfl⟩
  rw [hB6] at HD2 ⊢
  have x0 : w2.cell? ⟨W.heap.size, 0, none⟩ = some (.int .i64 (op : Int)) := HD2.out.x.cell 0
  clear hw2 hba hX2 hB6 HB1 HX1 HZ1 HL1
  go_wp2_with fail
  refine (HKD.out w2 HD2.out.b).mono ?_; rintro e w3 ⟨rfl, hb3⟩
  have HD := Lib.hid (HD2.out.below hb3)
  clear hb3 HD2 HKD x0
  have HSX := Lib.hid (fun (w : World) (hb : Below w3.heap.size w3 w) => (show w.cell? ⟨W.heap.size, 0, none⟩ = some (.int .i64 (op : Int)) ∧ w.cell? ⟨W.heap.size, 1, none⟩ = some (.int .i64 (rd : Int)) ∧ w.cell? ⟨W.heap.size, 2, none⟩ = some (.int .i64 (r1 : Int)) ∧ w.cell? ⟨W.heap.size, 3, none⟩ = some (.int .i64 (r2 : Int)) ∧ w.cell? ⟨W.heap.size, 4, none⟩ = some (.int .i64 n) from ⟨(boxN_below HD.out.x hb).cell 0, (boxN_below HD.out.x hb).cell 1, (boxN_below HD.out.x hb).cell 2, (boxN_below HD.out.x hb).cell 3, (boxN_below HD.out.x hb).cell 4⟩))
  have HN0 := Lib.hid (Below.refl w3.heap.size w3)
  have HB3 := Lib.hid HD.out.b
  go_upto_region 17 with fail
  go_region_held3 (fun W1 => W1.cell? ⟨W.heap.size, 0, none⟩ = some (.int .i64 (op : Int)) ∧ W1.cell? ⟨W.heap.size, 1, none⟩ = some (.int .i64 (rd : Int)) ∧ W1.cell? ⟨W.heap.size, 2, none⟩ = some (.int .i64 (r1 : Int)) ∧ W1.cell? ⟨W.heap.size, 3, none⟩ = some (.int .i64 (r2 : Int)) ∧ W1.cell? ⟨W.heap.size, 4, none⟩ = some (.int .i64 n))
    (first | with_reducible exact HS6.out | exact HSX.out _ (by first | ((repeat (first | with_reducible exact HN6.out | with_reducible exact HN5.out | with_reducible exact HN0.out | with_reducible refine Below.drew ?_)); done) | fail))
    (first
      | (go_at_call 97; (with_reducible refine (HR.out _ (by first | exact HB3.out | exact Below.drew HB3.out | exact HB5.out | exact HB6.out)).mono ?_); rintro e W5 ⟨rfl, hl5⟩; have HN5 : Hid (Below w3.heap.size w3 W5) := Lib.hid (by first | exact undrewB hl5 | exact hl5); have HB5 := Lib.hid (HB3.out.trans (HN5.out.mono HB3.out.size)); clear hl5)
      | (go_at_call 90; (with_reducible refine (HWR.out _ HB5.out).mono ?_); rintro e W6 ⟨rfl, hq, hm⟩; have HD6 := Lib.hid (HD.out.below HN5.out); have hx6 := (HD6.out.mv HM.out hm).1; have HS6 : Hid (W6.cell? ⟨W.heap.size, 0, none⟩ = some (.int .i64 (op : Int)) ∧ W6.cell? ⟨W.heap.size, 1, none⟩ = some (.int .i64 (rd : Int)) ∧ W6.cell? ⟨W.heap.size, 2, none⟩ = some (.int .i64 (r1 : Int)) ∧ W6.cell? ⟨W.heap.size, 3, none⟩ = some (.int .i64 (r2 : Int)) ∧ W6.cell? ⟨W.heap.size, 4, none⟩ = some (.int .i64 n)) := Lib.hid ⟨hx6.cell 0, hx6.cell 1, hx6.cell 2, hx6.cell 3, hx6.cell 4⟩; have HR6 := Lib.hid (HD6.out.end_ HM.out hq hm); have HZ6 := Lib.hid (HD6.out.mv HM.out hm).2; have HF6 := Lib.hid (HD6.out.nf HM.out hm); clear hq hm hx6))
  obtain ⟨⟨i0, i1, i2, i3, i4, i5⟩, j0, j1, j2, j3, j4, j5⟩ := boxN6 HZ6.out.1
  obtain ⟨⟨e0, e1, e2, e3, e4, e5⟩, -⟩ := boxN6 HZ6.out.2
  go_wp2_with fail
  refine bodyPost_ret (v := .tuple #[.agg #[.int .u64 nb, .int .u64 nt_, .int .u64 na, .int .i64 np, .int .i64 ny, .bool ng], .int .i64 0]) (by simp [results, Tryz.results41, go_sem, *]) rfl ?_
  have hs := do_fin (s := s) HM.out HR6.out.1 HR6.out.2 HF6.out (.int .u64 nb) (.int .u64 nt_) (.int .u64 na) (.int .i64 np) (.int .i64 ny) (.bool ng)
  exact ⟨⟨nb, nt_, na, np, ny, ng⟩, F, rfl, Or.inr ⟨rfl, rfl, hs.1⟩, hs.2⟩
end Go.Proofs.YtegoddghfjfibaaGreatDoor

