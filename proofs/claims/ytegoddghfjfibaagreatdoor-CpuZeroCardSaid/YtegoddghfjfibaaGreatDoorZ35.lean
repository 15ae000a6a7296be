/- CuV -/
import Derived.Test.YtegoddghfjfibaaGreatDoorZ28
import Derived.Test.YtegoddghfjfibaaGreatDoorZ33
namespace Go.Proofs.YtegoddghfjfibaaGreatDoor
set_option linter.unusedVariables false
set_option linter.unusedSimpArgs false
open Go.Joins Go.ChangeShapes Go.WideShapes Go.ChangeAt Go.RowKit Go.Deep

theorem inv_or {W w w' : World} {N A M : Nat} {F : Nat → Prop} {s : Mch} {er : Int} {d c : Cp} {rs1 : List Cp} (h : McS W N A M F s) (hb : Below W.heap.size W w) (hor : (er ≠ 0 ∧ Below w.heap.size w w') ∨ (er = 0 ∧ d = c ∧ McS w' N A M F ⟨s.pc, rs1, s.m⟩ ∧ McMv w w' F F A)) :
    McMv w w' F F A ∧ ((er ≠ 0 ∧ McS w' N A M F s) ∨ (er = 0 ∧ d = c ∧ McS w' N A M F ⟨s.pc, rs1, s.m⟩)) := by
  rcases hor with ⟨q1, q2⟩ | ⟨q1, q2, q3, q4⟩
  · exact ⟨McMv.of_below F A q2, Or.inl ⟨q1, (h.below hb).below q2⟩⟩
  · exact ⟨q4, Or.inr ⟨q1, q2, q3⟩⟩
set_option maxHeartbeats 8000000 in
theorem do_iff (W : World) (N A M : Nat) (F : Nat → Prop) (s : Mch) (h : McS W N A M F s) (nt : Is.NT W) (op rd r1 r2 : Nat) (n : Int) (o1 : 1 ≤ op) (o2 : op ≤ 82) (hrd : rd < 32) (h1 : r1 < 32) (h2 : r2 < 32) (hk : Is.kindO (op : Int) = 5) (hh : (Al.holdZ (opN (op : Int)) (regP s.rs r1).a (regP s.rs r2).a).1 = true) :
    Calls Tryz.prog 41 #[.pointer (some ⟨A, 0, none⟩), .agg #[.int .i64 (op : Int), .int .i64 (rd : Int), .int .i64 (r1 : Int), .int .i64 (r2 : Int), .int .i64 n]] W fun e w' => DoR W N A M F s ⟨aheadP s.pc (IntKind.u64.wrap n), s.rs, s.m⟩ 0 e w' := by
  have HA := Lib.hid (fun w (hb : Below W.heap.size W w) => ahead_any w A M s.pc s.rs (h.mc.below hb) 4)
  have HKD := Lib.hid (fun w (hb : Below W.heap.size W w) => Is.kind_any (op : Int) w (nt.on hb))
  rw [hk] at HKD
  have HC1 := Lib.hid (fun w (hb : Below W.heap.size W w) => mread_any w A M s.pc s.rs (h.mc.below hb) r1 h1)
  have HC2 := Lib.hid (fun w (hb : Below W.heap.size W w) => mread_any w A M s.pc s.rs (h.mc.below hb) r2 h2)
  have g1 := regP_fit h.frs r1
  have g2 := regP_fit h.frs r2
  obtain ⟨d1, hd1⟩ : ∃ c, regP s.rs r1 = c := ⟨_, rfl⟩
  obtain ⟨d2, hd2⟩ : ∃ c, regP s.rs r2 = c := ⟨_, rfl⟩
  rw [hd1] at HC1 g1 hh
  rw [hd2] at HC2 g2 hh
  have HH := Lib.hid (fun w (hb : Below W.heap.size W w) => Al.holds_any (op : Int) d1.a d2.a w (nt.on hb) g1.a0 g1.a1 g2.a0 g2.a1)
  rw [hh] at HH
  obtain ⟨ob, hob⟩ : ∃ o, (Al.holdZ (opN (op : Int)) d1.a d2.a).2 = o := ⟨_, rfl⟩
  rw [hob] at HH
  clear hd1 hd2 hh hob g1 g2
  obtain ⟨db, dt, da, dp, dy, dg⟩ := d1
  obtain ⟨fb, ft, fa, fp, fy, fg⟩ := d2
  unfold capC at HC1 HC2
  simp only [] at HC1 HC2 HH
  have hfd1 : ∀ Wq, (Instr.field 24 (.agg #[.int .u64 db, .int .u64 dt, .int .u64 da, .int .i64 dp, .int .i64 dy, .bool dg]) 2).run Tryz.prog Wq = .ok (.int .u64 da) Wq := fun _ => by kernel_rfl
  have hfd2 : ∀ Wq, (Instr.field 24 (.agg #[.int .u64 fb, .int .u64 ft, .int .u64 fa, .int .i64 fp, .int .i64 fy, .bool fg]) 2).run Tryz.prog Wq = .ok (.int .u64 fa) Wq := fun _ => by kernel_rfl
  have HA2 := Lib.hid (fun w (hb : Below W.heap.size W w) => ahead_any w A M s.pc s.rs (h.mc.below hb) (IntKind.u64.wrap n))
  obtain ⟨gv, hgv⟩ : ∃ c, aheadP s.pc (IntKind.u64.wrap n) = c := ⟨_, rfl⟩
  rw [hgv] at HA2 ⊢
  obtain ⟨gb, gt, ga, gp, gy, gg⟩ := gv
  unfold capC at HA2
  simp only [] at HA2
  clear hgv
  obtain ⟨nx, hnx⟩ : ∃ c, aheadP s.pc 4 = c := ⟨_, rfl⟩
  rw [hnx] at HA
  obtain ⟨nb, nt_, na, np, ny, ng⟩ := nx
  unfold capC at HA
  simp only [] at HA
  obtain ⟨b1, b2, b3, b4⟩ := boxes2 W #[.int .i64 (op : Int), .int .i64 (rd : Int), .int .i64 (r1 : Int), .int .i64 (r2 : Int), .int .i64 n] zer6 61 24
  obtain ⟨W0, hW0⟩ : ∃ W0, (W.alloc (.cells #[.int .i64 (op : Int), .int .i64 (rd : Int), .int .i64 (r1 : Int), .int .i64 (r2 : Int), .int .i64 n] 61)).alloc (.cells zer6 24) = W0 := ⟨_, rfl⟩
  rw [hW0] at b1 b2 b3 b4
  have HW0 := Lib.hid hW0
  have HB0 := Lib.hid b1
  have HX0 := Lib.hid b2
  have HZ0 := Lib.hid b3
  have HS0 := Lib.hid b4
  have HM := Lib.hid h
  clear hW0 b1 b2 b3 b4 h nt hnx hk
  go_enter Tryz.func41, Tryz.ntmps41
  go_upto_region 1 with fail
  (try rw [HW0.out])
  clear HW0
  go_wp2_with fail
  refine (HA.out W0 HB0.out).mono ?_; rintro e w1 ⟨rfl, hb⟩
  have HB1 := Lib.hid (HB0.out.trans (hb.mono HB0.out.size))
  have HX1 := Lib.hid (boxN_below HX0.out hb)
  have HZ1 := Lib.hid (boxN_below HZ0.out hb)
  have HL1 : Hid (W.heap.size + 1 < w1.heap.size) := Lib.hid HZ1.out.lt
  clear hb HA HB0 HX0 HZ0 HS0
  go_upto_region 2 with fail
  obtain ⟨w2, hw2⟩ : ∃ w2, w1.alloc (.cells #[.int .u64 nb, .int .u64 nt_, .int .u64 na, .int .i64 np, .int .i64 ny, .bool ng] 24) = w2 := ⟨_, rfl⟩
  have hba : Below w1.heap.size w1 w2 := by rw [← hw2]; exact bAlloc (Below.refl _ _) _
  have hX2 : BoxN w2 w1.heap.size #[.int .u64 nb, .int .u64 nt_, .int .u64 na, .int .i64 np, .int .i64 ny, .bool ng] := by rw [← hw2]; exact BoxN.new _ _ _
  rw [hw2]
  have HD2 : Hid (DoS W w2 w1.heap.size #[.int .i64 (op : Int), .int .i64 (rd : Int), .int .i64 (r1 : Int), .int .i64 (r2 : Int), .int .i64 n] #[.int .u64 nb, .int .u64 nt_, .int .u64 na, .int .i64 np, .int .i64 ny, .bool ng]) := Lib.hid ⟨HB1.out.trans (hba.mono HB1.out.size), boxN_below HX1.out hba, boxN_below HZ1.out hba, hX2, HL1.out⟩
  obtain ⟨B6, hB6⟩ : ∃ b, w1.heap.size = b := ⟨_, rfl⟩
  rw [hB6] at HD2 ⊢
  have x0 : w2.cell? ⟨W.heap.size, 0, none⟩ = some (.int .i64 (op : Int)) := HD2.out.x.cell 0
  clear hw2 hba hX2 hB6 HB1 HX1 HZ1 HL1
  go_wp2_with fail
  refine (HKD.out w2 HD2.out.b).mono ?_; rintro e w3 ⟨rfl, hb3⟩
  have HD := Lib.hid (HD2.out.below hb3)
  clear hb3 HD2 HKD x0
  have HSX := Lib.hid (fun (w : World) (hb : Below w3.heap.size w3 w) => (show w.cell? ⟨W.heap.size, 0, none⟩ = some (.int .i64 (op : Int)) ∧ w.cell? ⟨W.heap.size, 1, none⟩ = some (.int .i64 (rd : Int)) ∧ w.cell? ⟨W.heap.size, 2, none⟩ = some (.int .i64 (r1 : Int)) ∧ w.cell? ⟨W.heap.size, 3, none⟩ = some (.int .i64 (r2 : Int)) ∧ w.cell? ⟨W.heap.size, 4, none⟩ = some (.int .i64 n) from ⟨(boxN_below HD.out.x hb).cell 0, (boxN_below HD.out.x hb).cell 1, (boxN_below HD.out.x hb).cell 2, (boxN_below HD.out.x hb).cell 3, (boxN_below HD.out.x hb).cell 4⟩))
  have HN0 := Lib.hid (Below.refl w3.heap.size w3)
  have HB3 := Lib.hid HD.out.b
  go_upto_region 13 with fail
  go_region_held3 (fun W1 => W1.cell? ⟨W.heap.size, 0, none⟩ = some (.int .i64 (op : Int)) ∧ W1.cell? ⟨W.heap.size, 1, none⟩ = some (.int .i64 (rd : Int)) ∧ W1.cell? ⟨W.heap.size, 2, none⟩ = some (.int .i64 (r1 : Int)) ∧ W1.cell? ⟨W.heap.size, 3, none⟩ = some (.int .i64 (r2 : Int)) ∧ W1.cell? ⟨W.heap.size, 4, none⟩ = some (.int .i64 n))
    (first | with_reducible exact HS6.out | exact HSX.out _ (by first | ((repeat (first | with_reducible exact HN6.out | with_reducible exact HN5.out | with_reducible exact HN0.out | with_reducible refine Below.drew ?_)); done) | fail))
    (first
      | (go_at_call 96; (with_reducible refine (HC1.out _ (by first | exact HB3.out | exact Below.drew HB3.out)).mono ?_); rintro e W5 ⟨rfl, hl5⟩; have HN5 : Hid (Below w3.heap.size w3 W5) := Lib.hid (by first | exact undrewB hl5 | exact hl5); have HB5 := Lib.hid (HB3.out.trans (HN5.out.mono HB3.out.size)); clear hl5)
      | (go_at_call 96; (with_reducible refine (HC2.out _ HB5.out).mono ?_); rintro e W6 ⟨rfl, hl6⟩; have HN6 : Hid (Below w3.heap.size w3 W6) := Lib.hid (HN5.out.trans (hl6.mono HN5.out.size)); have HB6 := Lib.hid (HB3.out.trans (HN6.out.mono HB3.out.size)); clear hl6)
      | (go_at_call 95; (with_reducible refine (HH.out _ HB6.out).mono ?_); rintro e W7 ⟨rfl, rfl⟩))
  have HD6 := Lib.hid (HD.out.below HN6.out)
  have p4 : W6.cell? ⟨W.heap.size, 4, none⟩ = some (.int .i64 n) := HD6.out.x.cell 4
  go_wp2_with fail
  refine (HA2.out W6 HD6.out.b).mono ?_; rintro e W8 ⟨rfl, hb8⟩
  have HD8 := Lib.hid (HD6.out.below hb8)
  have HR6 : Hid (McS W8 N A M F s ∧ McMv W W8 F F A) := Lib.hid ⟨HM.out.below HD8.out.b, McMv.of_below F A HD8.out.b⟩
  have HF6 : Hid (∀ b, F b → b ≠ W.heap.size + 1) := Lib.hid (fun b hb e => by have := HM.out.own.lt b hb; omega)
  clear hb8 HA2 p4
  obtain ⟨⟨i0, i1, i2, i3, i4, i5⟩, j0, j1, j2, j3, j4, j5⟩ := boxN6 HD8.out.z
  go_wp2_with fail
  refine bodyPost_ret (v := .tuple #[.agg #[.int .u64 gb, .int .u64 gt, .int .u64 ga, .int .i64 gp, .int .i64 gy, .bool gg], .int .i64 0]) (by simp [results, Tryz.results41, go_sem, *]) rfl ?_
  have hs := do_fin (s := s) HM.out HR6.out.1 HR6.out.2 HF6.out (.int .u64 gb) (.int .u64 gt) (.int .u64 ga) (.int .i64 gp) (.int .i64 gy) (.bool gg)
  exact ⟨⟨gb, gt, ga, gp, gy, gg⟩, F, rfl, Or.inr ⟨rfl, rfl, hs.1⟩, hs.2⟩
set_option maxHeartbeats 8000000 in
theorem do_ifn (W : World) (N A M : Nat) (F : Nat → Prop) (s : Mch) (h : McS W N A M F s) (nt : Is.NT W) (op rd r1 r2 : Nat) (n : Int) (o1 : 1 ≤ op) (o2 : op ≤ 82) (hrd : rd < 32) (h1 : r1 < 32) (h2 : r2 < 32) (hk : Is.kindO (op : Int) = 5) (hh : (Al.holdZ (opN (op : Int)) (regP s.rs r1).a (regP s.rs r2).a).1 = false) :
    Calls Tryz.prog 41 #[.pointer (some ⟨A, 0, none⟩), .agg #[.int .i64 (op : Int), .int .i64 (rd : Int), .int .i64 (r1 : Int), .int .i64 (r2 : Int), .int .i64 n]] W fun e w' => DoR W N A M F s ⟨aheadP s.pc 4, s.rs, s.m⟩ 0 e w' := by
  have HA := Lib.hid (fun w (hb : Below W.heap.size W w) => ahead_any w A M s.pc s.rs (h.mc.below hb) 4)
  have HKD := Lib.hid (fun w (hb : Below W.heap.size W w) => Is.kind_any (op : Int) w (nt.on hb))
  rw [hk] at HKD
  have HC1 := Lib.hid (fun w (hb : Below W.heap.size W w) => mread_any w A M s.pc s.rs (h.mc.below hb) r1 h1)
  have HC2 := Lib.hid (fun w (hb : Below W.heap.size W w) => mread_any w A M s.pc s.rs (h.mc.below hb) r2 h2)
  have g1 := regP_fit h.frs r1
  have g2 := regP_fit h.frs r2
  obtain ⟨d1, hd1⟩ : ∃ c, regP s.rs r1 = c := ⟨_, rfl⟩
  obtain ⟨d2, hd2⟩ : ∃ c, regP s.rs r2 = c := ⟨_, rfl⟩
  rw [hd1] at HC1 g1 hh
  rw [hd2] at HC2 g2 hh
  have HH := Lib.hid (fun w (hb : Below W.heap.size W w) => Al.holds_any (op : Int) d1.a d2.a w (nt.on hb) g1.a0 g1.a1 g2.a0 g2.a1)
  rw [hh] at HH
  obtain ⟨ob, hob⟩ : ∃ o, (Al.holdZ (opN (op : Int)) d1.a d2.a).2 = o := ⟨_, rfl⟩
  rw [hob] at HH
  clear hd1 hd2 hh hob g1 g2
  obtain ⟨db, dt, da, dp, dy, dg⟩ := d1
  obtain ⟨fb, ft, fa, fp, fy, fg⟩ := d2
  unfold capC at HC1 HC2
  simp only [] at HC1 HC2 HH
  have hfd1 : ∀ Wq, (Instr.field 24 (.agg #[.int .u64 db, .int .u64 dt, .int .u64 da, .int .i64 dp, .int .i64 dy, .bool dg]) 2).run Tryz.prog Wq = .ok (.int .u64 da) Wq := fun _ => by kernel_rfl
  have hfd2 : ∀ Wq, (Instr.field 24 (.agg #[.int .u64 fb, .int .u64 ft, .int .u64 fa, .int .i64 fp, .int .i64 fy, .bool fg]) 2).run Tryz.prog Wq = .ok (.int .u64 fa) Wq := fun _ => by kernel_rfl
  obtain ⟨nx, hnx⟩ : ∃ c, aheadP s.pc 4 = c := ⟨_, rfl⟩
  rw [hnx] at HA ⊢
  obtain ⟨nb, nt_, na, np, ny, ng⟩ := nx
  unfold capC at HA
  simp only [] at HA
  obtain ⟨b1, b2, b3, b4⟩ := boxes2 W #[.int .i64 (op : Int), .int .i64 (rd : Int), .int .i64 (r1 : Int), .int .i64 (r2 : Int), .int .i64 n] zer6 61 24
  obtain ⟨W0, hW0⟩ : ∃ W0, (W.alloc (.cells #[.int .i64 (op : Int), .int .i64 (rd : Int), .int .i64 (r1 : Int), .int .i64 (r2 : Int), .int .i64 n] 61)).alloc (.cells zer6 24) = W0 := ⟨_, rfl⟩
  rw [hW0] at b1 b2 b3 b4
  have HW0 := Lib.hid hW0
  have HB0 := Lib.hid b1
  have HX0 := Lib.hid b2
  have HZ0 := Lib.hid b3
  have HS0 := Lib.hid b4
  have HM := Lib.hid h
  clear hW0 b1 b2 b3 b4 h nt hnx hk
  go_enter Tryz.func41, Tryz.ntmps41
  go_upto_region 1 with fail
  (try rw [HW0.out])
  clear HW0
  go_wp2_with fail
  refine (HA.out W0 HB0.out).mono ?_; rintro e w1 ⟨rfl, hb⟩
  have HB1 := Lib.hid (HB0.out.trans (hb.mono HB0.out.size))
  have HX1 := Lib.hid (boxN_below HX0.out hb)
  have HZ1 := Lib.hid (boxN_below HZ0.out hb)
  have HL1 : Hid (W.heap.size + 1 < w1.heap.size) := Lib.hid HZ1.out.lt
  clear hb HA HB0 HX0 HZ0 HS0
  go_upto_region 2 with fail
  obtain ⟨w2, hw2⟩ : ∃ w2, w1.alloc (.cells #[.int .u64 nb, .int .u64 nt_, .int .u64 na, .int .i64 np, .int .i64 ny, .bool ng] 24) = w2 := ⟨_, rfl⟩
  have hba : Below w1.heap.size w1 w2 := by rw [← hw2]; exact bAlloc (Below.refl _ _) _
  have hX2 : BoxN w2 w1.heap.size #[.int .u64 nb, .int .u64 nt_, .int .u64 na, .int .i64 np, .int .i64 ny, .bool ng] := by rw [← hw2]; exact BoxN.new _ _ _
  rw [hw2]
  have HD2 : Hid (DoS W w2 w1.heap.size #[.int .i64 (op : Int), .int .i64 (rd : Int), .int .i64 (r1 : Int), .int .i64 (r2 : Int), .int .i64 n] #[.int .u64 nb, .int .u64 nt_, .int .u64 na, .int .i64 np, .int .i64 ny, .bool ng]) := Lib.hid ⟨HB1.out.trans (hba.mono HB1.out.size), boxN_below HX1.out hba, boxN_below HZ1.out hba, hX2, HL1.out⟩
  obtain ⟨B6, hB6⟩ : ∃ b, w1.heap.size = b := ⟨_, rfl⟩
  rw [hB6] at HD2 ⊢
  have x0 : w2.cell? ⟨W.heap.size, 0, none⟩ = some (.int .i64 (op : Int)) := HD2.out.x.cell 0
  clear hw2 hba hX2 hB6 HB1 HX1 HZ1 HL1
  go_wp2_with fail
  refine (HKD.out w2 HD2.out.b).mono ?_; rintro e w3 ⟨rfl, hb3⟩
  have HD := Lib.hid (HD2.out.below hb3)
  clear hb3 HD2 HKD x0
  have HSX := Lib.hid (fun (w : World) (hb : Below w3.heap.size w3 w) => (show w.cell? ⟨W.heap.size, 0, none⟩ = some (.int .i64 (op : Int)) ∧ w.cell? ⟨W.heap.size, 1, none⟩ = some (.int .i64 (rd : Int)) ∧ w.cell? ⟨W.heap.size, 2, none⟩ = some (.int .i64 (r1 : Int)) ∧ w.cell? ⟨W.heap.size, 3, none⟩ = some (.int .i64 (r2 : Int)) ∧ w.cell? ⟨W.heap.size, 4, none⟩ = some (.int .i64 n) from ⟨(boxN_below HD.out.x hb).cell 0, (boxN_below HD.out.x hb).cell 1, (boxN_below HD.out.x hb).cell 2, (boxN_below HD.out.x hb).cell 3, (boxN_below HD.out.x hb).cell 4⟩))
  have HN0 := Lib.hid (Below.refl w3.heap.size w3)
  have HB3 := Lib.hid HD.out.b
  go_upto_region 13 with fail
  go_region_held3 (fun W1 => W1.cell? ⟨W.heap.size, 0, none⟩ = some (.int .i64 (op : Int)) ∧ W1.cell? ⟨W.heap.size, 1, none⟩ = some (.int .i64 (rd : Int)) ∧ W1.cell? ⟨W.heap.size, 2, none⟩ = some (.int .i64 (r1 : Int)) ∧ W1.cell? ⟨W.heap.size, 3, none⟩ = some (.int .i64 (r2 : Int)) ∧ W1.cell? ⟨W.heap.size, 4, none⟩ = some (.int .i64 n))
    (first | with_reducible exact HS6.out | exact HSX.out _ (by first | ((repeat (first | with_reducible exact HN6.out | with_reducible exact HN5.out | with_reducible exact HN0.out | with_reducible refine Below.drew ?_)); done) | fail))
    (first
      | (go_at_call 96; (with_reducible refine (HC1.out _ (by first | exact HB3.out | exact Below.drew HB3.out)).mono ?_); rintro e W5 ⟨rfl, hl5⟩; have HN5 : Hid (Below w3.heap.size w3 W5) := Lib.hid (by first | exact undrewB hl5 | exact hl5); have HB5 := Lib.hid (HB3.out.trans (HN5.out.mono HB3.out.size)); clear hl5)
      | (go_at_call 96; (with_reducible refine (HC2.out _ HB5.out).mono ?_); rintro e W6 ⟨rfl, hl6⟩; have HN6 : Hid (Below w3.heap.size w3 W6) := Lib.hid (HN5.out.trans (hl6.mono HN5.out.size)); have HB6 := Lib.hid (HB3.out.trans (HN6.out.mono HB3.out.size)); clear hl6)
      | (go_at_call 95; (with_reducible refine (HH.out _ HB6.out).mono ?_); rintro e W7 ⟨rfl, rfl⟩))
  have HD6 := Lib.hid (HD.out.below HN6.out)
  have HR6 : Hid (McS W6 N A M F s ∧ McMv W W6 F F A) := Lib.hid ⟨HM.out.below HD6.out.b, McMv.of_below F A HD6.out.b⟩
  have HF6 : Hid (∀ b, F b → b ≠ W.heap.size + 1) := Lib.hid (fun b hb e => by have := HM.out.own.lt b hb; omega)
  obtain ⟨⟨i0, i1, i2, i3, i4, i5⟩, j0, j1, j2, j3, j4, j5⟩ := boxN6 HD6.out.z
  obtain ⟨⟨e0, e1, e2, e3, e4, e5⟩, -⟩ := boxN6 HD6.out.n
  go_wp2_with fail
  refine bodyPost_ret (v := .tuple #[.agg #[.int .u64 nb, .int .u64 nt_, .int .u64 na, .int .i64 np, .int .i64 ny, .bool ng], .int .i64 0]) (by simp [results, Tryz.results41, go_sem, *]) rfl ?_
  have hs := do_fin (s := s) HM.out HR6.out.1 HR6.out.2 HF6.out (.int .u64 nb) (.int .u64 nt_) (.int .u64 na) (.int .i64 np) (.int .i64 ny) (.bool ng)
  exact ⟨⟨nb, nt_, na, np, ny, ng⟩, F, rfl, Or.inr ⟨rfl, rfl, hs.1⟩, hs.2⟩
set_option maxHeartbeats 8000000 in
theorem do_two (W : World) (N A M : Nat) (F : Nat → Prop) (s : Mch) (h : McS W N A M F s) (nt : Is.NT W) (op rd r1 r2 : Nat) (n : Int) (o1 : 1 ≤ op) (o2 : op ≤ 82) (hrd : rd < 32) (h1 : r1 < 32) (h2 : r2 < 32) (hk : Is.kindO (op : Int) = 10) :
    Calls Tryz.prog 41 #[.pointer (some ⟨A, 0, none⟩), .agg #[.int .i64 (op : Int), .int .i64 (rd : Int), .int .i64 (r1 : Int), .int .i64 (r2 : Int), .int .i64 n]] W fun e w' => DoR W N A M F s ⟨openP (regP s.rs r1), putP s.rs 31 (openP (regP s.rs r2)), s.m⟩ (invokeE (regP s.rs r1) (regP s.rs r2)) e w' := by
  have HA := Lib.hid (fun w (hb : Below W.heap.size W w) => ahead_any w A M s.pc s.rs (h.mc.below hb) 4)
  have HKD := Lib.hid (fun w (hb : Below W.heap.size W w) => Is.kind_any (op : Int) w (nt.on hb))
  rw [hk] at HKD
  have HC1 := Lib.hid (fun w (hb : Below W.heap.size W w) => mread_any w A M s.pc s.rs (h.mc.below hb) r1 h1)
  have HC2 := Lib.hid (fun w (hb : Below W.heap.size W w) => mread_any w A M s.pc s.rs (h.mc.below hb) r2 h2)
  have g1 := regP_fit h.frs r1
  have g2 := regP_fit h.frs r2
  obtain ⟨d1, hd1⟩ : ∃ c, regP s.rs r1 = c := ⟨_, rfl⟩
  obtain ⟨d2, hd2⟩ : ∃ c, regP s.rs r2 = c := ⟨_, rfl⟩
  rw [hd1] at HC1 g1 ⊢
  rw [hd2] at HC2 g2 ⊢
  have HIN := Lib.hid (fun w (hb : Below W.heap.size W w) => invoke_any w N A M F s (h.below hb) d1 d2 g1 g2)
  obtain ⟨er, her⟩ : ∃ q, invokeE d1 d2 = q := ⟨_, rfl⟩
  rw [her] at HIN ⊢
  obtain ⟨od, hod⟩ : ∃ q, openP d1 = q := ⟨_, rfl⟩
  rw [hod] at HIN ⊢
  obtain ⟨rs1, hrs⟩ : ∃ q, putP s.rs 31 (openP d2) = q := ⟨_, rfl⟩
  rw [hrs] at HIN ⊢
  clear hd1 hd2 her hod hrs g1 g2
  have hcc : ∀ d : Cp, (capC d).toArray = #[.int .u64 d.b, .int .u64 d.t, .int .u64 d.a, .int .i64 d.p, .int .i64 d.y, .bool d.g] := fun d => rfl
  have HCC := Lib.hid hcc
  clear hcc
  obtain ⟨db, dt, da, dp, dy, dg⟩ := d1
  obtain ⟨fb, ft, fa, fp, fy, fg⟩ := d2
  rw [HCC.out] at HC1 HC2
  simp only [HCC.out] at HIN
  simp only [] at HC1 HC2 HIN
  obtain ⟨nx, hnx⟩ : ∃ c, aheadP s.pc 4 = c := ⟨_, rfl⟩
  rw [hnx] at HA
  obtain ⟨nb, nt_, na, np, ny, ng⟩ := nx
  unfold capC at HA
  simp only [] at HA
  obtain ⟨b1, b2, b3, b4⟩ := boxes2 W #[.int .i64 (op : Int), .int .i64 (rd : Int), .int .i64 (r1 : Int), .int .i64 (r2 : Int), .int .i64 n] zer6 61 24
  obtain ⟨W0, hW0⟩ : ∃ W0, (W.alloc (.cells #[.int .i64 (op : Int), .int .i64 (rd : Int), .int .i64 (r1 : Int), .int .i64 (r2 : Int), .int .i64 n] 61)).alloc (.cells zer6 24) = W0 := ⟨_, rfl⟩
  rw [hW0] at b1 b2 b3 b4
  have HW0 := Lib.hid hW0
  have HB0 := Lib.hid b1
  have HX0 := Lib.hid b2
  have HZ0 := Lib.hid b3
  have HS0 := Lib.hid b4
  have HM := Lib.hid h
  clear hW0 b1 b2 b3 b4 h nt hnx hk
  go_enter Tryz.func41, Tryz.ntmps41
  go_upto_region 1 with fail
  (try rw [HW0.out])
  clear HW0
  go_wp2_with fail
  refine (HA.out W0 HB0.out).mono ?_; rintro e w1 ⟨rfl, hb⟩
  have HB1 := Lib.hid (HB0.out.trans (hb.mono HB0.out.size))
  have HX1 := Lib.hid (boxN_below HX0.out hb)
  have HZ1 := Lib.hid (boxN_below HZ0.out hb)
  have HL1 : Hid (W.heap.size + 1 < w1.heap.size) := Lib.hid HZ1.out.lt
  clear hb HA HB0 HX0 HZ0 HS0
  go_upto_region 2 with fail
  obtain ⟨w2, hw2⟩ : ∃ w2, w1.alloc (.cells #[.int .u64 nb, .int .u64 nt_, .int .u64 na, .int .i64 np, .int .i64 ny, .bool ng] 24) = w2 := ⟨_, rfl⟩
  have hba : Below w1.heap.size w1 w2 := by rw [← hw2]; exact bAlloc (Below.refl _ _) _
  have hX2 : BoxN w2 w1.heap.size #[.int .u64 nb, .int .u64 nt_, .int .u64 na, .int .i64 np, .int .i64 ny, .bool ng] := by rw [← hw2]; exact BoxN.new _ _ _
  rw [hw2]
  have HD2 : Hid (DoS W w2 w1.heap.size #[.int .i64 (op : Int), .int .i64 (rd : Int), .int .i64 (r1 : Int), .int .i64 (r2 : Int), .int .i64 n] #[.int .u64 nb, .int .u64 nt_, .int .u64 na, .int .i64 np, .int .i64 ny, .bool ng]) := Lib.hid ⟨HB1.out.trans (hba.mono HB1.out.size), boxN_below HX1.out hba, boxN_below HZ1.out hba, hX2, HL1.out⟩
  obtain ⟨B6, hB6⟩ : ∃ b, w1.heap.size = b := ⟨_, rfl⟩
  rw [hB6] at HD2 ⊢
  have x0 : w2.cell? ⟨W.heap.size, 0, none⟩ = some (.int .i64 (op : Int)) := HD2.out.x.cell 0
  clear hw2 hba hX2 hB6 HB1 HX1 HZ1 HL1
  go_wp2_with fail
  refine (HKD.out w2 HD2.out.b).mono ?_; rintro e w3 ⟨rfl, hb3⟩
  have HD := Lib.hid (HD2.out.below hb3)
  clear hb3 HD2 HKD x0
  have HSX := Lib.hid (fun (w : World) (hb : Below w3.heap.size w3 w) => (show w.cell? ⟨W.heap.size, 0, none⟩ = some (.int .i64 (op : Int)) ∧ w.cell? ⟨W.heap.size, 1, none⟩ = some (.int .i64 (rd : Int)) ∧ w.cell? ⟨W.heap.size, 2, none⟩ = some (.int .i64 (r1 : Int)) ∧ w.cell? ⟨W.heap.size, 3, none⟩ = some (.int .i64 (r2 : Int)) ∧ w.cell? ⟨W.heap.size, 4, none⟩ = some (.int .i64 n) from ⟨(boxN_below HD.out.x hb).cell 0, (boxN_below HD.out.x hb).cell 1, (boxN_below HD.out.x hb).cell 2, (boxN_below HD.out.x hb).cell 3, (boxN_below HD.out.x hb).cell 4⟩))
  have HN0 := Lib.hid (Below.refl w3.heap.size w3)
  have HB3 := Lib.hid HD.out.b
  go_upto_region 22 with fail
  go_region_held3 (fun W1 => W1.cell? ⟨W.heap.size, 0, none⟩ = some (.int .i64 (op : Int)) ∧ W1.cell? ⟨W.heap.size, 1, none⟩ = some (.int .i64 (rd : Int)) ∧ W1.cell? ⟨W.heap.size, 2, none⟩ = some (.int .i64 (r1 : Int)) ∧ W1.cell? ⟨W.heap.size, 3, none⟩ = some (.int .i64 (r2 : Int)) ∧ W1.cell? ⟨W.heap.size, 4, none⟩ = some (.int .i64 n))
    (first | with_reducible exact HS8.out | with_reducible exact HS7.out | exact HSX.out _ (by first | ((repeat (first | with_reducible exact HN6.out | with_reducible exact HN5.out | with_reducible exact HN0.out | with_reducible refine Below.drew ?_)); done) | fail))
    (first
      | (go_at_call 96; (with_reducible refine (HC1.out _ (by first | exact HB3.out | exact Below.drew HB3.out)).mono ?_); rintro e W5 ⟨rfl, hl5⟩; have HN5 : Hid (Below w3.heap.size w3 W5) := Lib.hid (by first | exact undrewB hl5 | exact hl5); have HB5 := Lib.hid (HB3.out.trans (HN5.out.mono HB3.out.size)); clear hl5)
      | (go_at_call 96; (with_reducible refine (HC2.out _ HB5.out).mono ?_); rintro e W6 ⟨rfl, hl6⟩; have HN6 : Hid (Below w3.heap.size w3 W6) := Lib.hid (HN5.out.trans (hl6.mono HN5.out.size)); have HB6 := Lib.hid (HB3.out.trans (HN6.out.mono HB3.out.size)); clear hl6)
      | (go_at_call 98; (with_reducible refine (HIN.out _ HB6.out).mono ?_); rintro e W7 ⟨⟨gb, gt, ga, gp, gy, gg⟩, rfl, hor⟩; have HD6 := Lib.hid (HD.out.below HN6.out); have HOR : Hid (McMv W6 W7 F F A ∧ ((er ≠ 0 ∧ McS W7 N A M F s) ∨ (er = 0 ∧ (⟨gb, gt, ga, gp, gy, gg⟩ : Cp) = od ∧ McS W7 N A M F ⟨s.pc, rs1, s.m⟩))) := Lib.hid (inv_or HM.out HD6.out.b hor); have hx7 := HD6.out.mv HM.out HOR.out.1; have HS7 := Lib.hid (box5 hx7.1).1; obtain ⟨⟨i0, i1, i2, i3, i4, i5⟩, j0, j1, j2, j3, j4, j5⟩ := boxN6 hx7.2.1; have HS8 := Lib.hid (box5 (box_off6 (R := W.heap.size + 1) hx7.1 (by omega) (.int .u64 gb) (.int .u64 gt) (.int .u64 ga) (.int .i64 gp) (.int .i64 gy) (.bool gg))).1; have HMV := Lib.hid ((McMv.of_below F A HD6.out.b).trans HOR.out.1 HM.out.mc.lt); have HF6 := Lib.hid (HD6.out.nf HM.out HOR.out.1); clear hor hx7; simp only []))
  go_wp2_with fail
  refine bodyPost_ret (v := .tuple #[.agg #[.int .u64 gb, .int .u64 gt, .int .u64 ga, .int .i64 gp, .int .i64 gy, .bool gg], .int .i64 er]) (by simp [results, Tryz.results41, go_sem, *]) rfl ?_
  rcases HOR.out.2 with ⟨q1, q2⟩ | ⟨q1, q2, q3⟩
  · have hs := do_fin (s := s) HM.out q2 HMV.out HF6.out (.int .u64 gb) (.int .u64 gt) (.int .u64 ga) (.int .i64 gp) (.int .i64 gy) (.bool gg)
    exact ⟨⟨gb, gt, ga, gp, gy, gg⟩, F, rfl, Or.inl ⟨q1, hs.1⟩, hs.2⟩
  · have hs := do_fin (s := s) HM.out q3 HMV.out HF6.out (.int .u64 gb) (.int .u64 gt) (.int .u64 ga) (.int .i64 gp) (.int .i64 gy) (.bool gg)
    exact ⟨⟨gb, gt, ga, gp, gy, gg⟩, F, rfl, Or.inr ⟨q1, q2, hs.1⟩, hs.2⟩
end Go.Proofs.YtegoddghfjfibaaGreatDoor

