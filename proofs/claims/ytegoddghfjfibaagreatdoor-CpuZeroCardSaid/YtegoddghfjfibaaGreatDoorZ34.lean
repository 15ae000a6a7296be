/- CuU -/
import Derived.Test.YtegoddghfjfibaaGreatDoorZ28
import Derived.Test.YtegoddghfjfibaaGreatDoorZ31
import Derived.Test.YtegoddghfjfibaaGreatDoorZ32
import Derived.Test.YtegoddghfjfibaaGreatDoorZ33
namespace Go.Proofs.YtegoddghfjfibaaGreatDoor
set_option linter.unusedVariables false
set_option linter.unusedSimpArgs false
open Go.Joins Go.ChangeShapes Go.WideShapes Go.ChangeAt Go.RowKit Go.Deep

set_option maxHeartbeats 8000000 in
theorem do_load (W : World) (N A M : Nat) (F : Nat → Prop) (s : Mch) (h : McS W N A M F s) (nt : Is.NT W) (op rd r1 r2 : Nat) (n : Int) (o1 : 1 ≤ op) (o2 : op ≤ 82) (hrd : rd < 32) (h1 : r1 < 32) (h2 : r2 < 32) (hk : Is.kindO (op : Int) = 3) :
    Calls Tryz.prog 41 #[.pointer (some ⟨A, 0, none⟩), .agg #[.int .i64 (op : Int), .int .i64 (rd : Int), .int .i64 (r1 : Int), .int .i64 (r2 : Int), .int .i64 n]] W fun e w' => DoR W N A M F s (ljP s ⟨op, rd, r1, r2, n⟩ (aheadP s.pc 4)).1 (ljP s ⟨op, rd, r1, r2, n⟩ (aheadP s.pc 4)).2 e w' := by
  have HA := Lib.hid (fun w (hb : Below W.heap.size W w) => ahead_any w A M s.pc s.rs (h.mc.below hb) 4)
  have HKD := Lib.hid (fun w (hb : Below W.heap.size W w) => Is.kind_any (op : Int) w (nt.on hb))
  rw [hk] at HKD
  have HL := Lib.hid (fun w (hb : Below W.heap.size W w) => loadOrJump_any w N A M F s (h.below hb) (nt.on hb) ⟨op, rd, r1, r2, n⟩ h1 hrd (aheadP s.pc 4) (fit_ahead h.fpc 4))
  obtain ⟨⟨s1, er⟩, hlj⟩ : ∃ q, ljP s ⟨op, rd, r1, r2, n⟩ (aheadP s.pc 4) = q := ⟨_, rfl⟩
  rw [hlj] at HL ⊢
  unfold insV at HL
  simp only [] at HL ⊢
  clear hlj
  obtain ⟨nx, hnx⟩ : ∃ c, aheadP s.pc 4 = c := ⟨_, rfl⟩
  rw [hnx] at HA HL
  obtain ⟨nb, nt_, na, np, ny, ng⟩ := nx
  unfold capC at HA HL
  simp only [] at HA HL
  obtain ⟨b1, b2, b3, b4⟩ := boxes2 W #[.int .i64 (op : Int), .int .i64 (rd : Int), .int .i64 (r1 : Int), .int .i64 (r2 : Int), .int .i64 n] zer6 61 24
  obtain ⟨W0, hW0⟩ : ∃ W0, (W.alloc (.cells #[.int .i64 (op : Int), .int .i64 (rd : Int), .int .i64 (r1 : Int), .int .i64 (r2 : Int), .int .i64 n] 61)).alloc (.cells zer6 24) = W0 := ⟨_, rfl⟩
  rw [hW0] at b1 b2 b3 b4
  have HW0 := Lib.hid hW0
  have HB0 := Lib.hid b1
  have HX0 := Lib.hid b2
  have HZ0 := Lib.hid b3
  have HS0 := Lib.hid b4
  have HM := Lib.hid h
  clear hW0 b1 b2 b3 b4 h nt hnx hk
  go_enter Tryz.func41, Tryz.ntmps41
  go_upto_region 1 with fail
  (try rw [HW0.out])
  clear HW0
  go_wp2_with fail
  refine (HA.out W0 HB0.out).mono ?_; rintro e w1 ⟨rfl, hb⟩
  have HB1 := Lib.hid (HB0.out.trans (hb.mono HB0.out.size))
  have HX1 := Lib.hid (boxN_below HX0.out hb)
  have HZ1 := Lib.hid (boxN_below HZ0.out hb)
  have HL1 : Hid (W.heap.size + 1 < w1.heap.size) := Lib.hid HZ1.out.lt
  clear hb HA HB0 HX0 HZ0 HS0
  go_upto_region 2 with fail
  obtain ⟨w2, hw2⟩ : ∃ w2, w1.alloc (.cells #[.int .u64 nb, .int .u64 nt_, .int .u64 na, .int .i64 np, .int .i64 ny, .bool ng] 24) = w2 := ⟨_, rfl⟩
  have hba : Below w1.heap.size w1 w2 := by rw [← hw2]; exact bAlloc (Below.refl _ _) _
  have hX2 : BoxN w2 w1.heap.size #[.int .u64 nb, .int .u64 nt_, .int .u64 na, .int .i64 np, .int .i64 ny, .bool ng] := by rw [← hw2]; exact BoxN.new _ _ _
  rw [hw2]
  have HD2 : Hid (DoS W w2 w1.heap.size #[.int .i64 (op : Int), .int .i64 (rd : Int), .int .i64 (r1 : Int), .int .i64 (r2 : Int), .int .i64 n] #[.int .u64 nb, .int .u64 nt_, .int .u64 na, .int .i64 np, .int .i64 ny, .bool ng]) := Lib.hid ⟨HB1.out.trans (hba.mono HB1.out.size), boxN_below HX1.out hba, boxN_below HZ1.out hba, hX2, HL1.out⟩
  obtain ⟨B6, hB6⟩ : ∃ b, w1.heap.size = b := ⟨_, rfl⟩
  rw [hB6] at HD2 ⊢
  have x0 : w2.cell? ⟨W.heap.size, 0, none⟩ = some (.int .i64 (op : Int)) := HD2.out.x.cell 0
  clear hw2 hba hX2 hB6 HB1 HX1 HZ1 HL1
  go_wp2_with fail
  refine (HKD.out w2 HD2.out.b).mono ?_; rintro e w3 ⟨rfl, hb3⟩
  have HD := Lib.hid (HD2.out.below hb3)
  clear hb3 HD2 HKD x0
  obtain ⟨⟨p0, p1, p2, p3, p4⟩, -⟩ := box5 HD.out.x
  obtain ⟨⟨e0, e1, e2, e3, e4, e5⟩, -⟩ := boxN6 HD.out.n
  obtain ⟨⟨i0, i1, i2, i3, i4, i5⟩, j0, j1, j2, j3, j4, j5⟩ := boxN6 HD.out.z
  go_wp2_with fail
  refine (HL.out w3 HD.out.b).mono ?_; rintro e W6 ⟨⟨gb, gt, ga, gp, gy, gg⟩, F', rfl, hor, hm⟩
  have HZ6 := Lib.hid (HD.out.mv HM.out hm).2
  have HF6 := Lib.hid (HD.out.nf HM.out hm)
  have HMV := Lib.hid ((McMv.of_below F A HD.out.b).trans hm HM.out.mc.lt)
  have HOR := Lib.hid hor
  clear hor hm HL HD p0 p1 p2 p3 p4 e0 e1 e2 e3 e4 e5 i0 i1 i2 i3 i4 i5 j0 j1 j2 j3 j4 j5
  obtain ⟨⟨i0, i1, i2, i3, i4, i5⟩, j0, j1, j2, j3, j4, j5⟩ := boxN6 HZ6.out.1
  have hcg : (capC ⟨gb, gt, ga, gp, gy, gg⟩).toArray = #[.int .u64 gb, .int .u64 gt, .int .u64 ga, .int .i64 gp, .int .i64 gy, .bool gg] := rfl
  rw [hcg]
  clear hcg
  go_wp2_with fail
  refine bodyPost_ret (v := .tuple #[.agg #[.int .u64 gb, .int .u64 gt, .int .u64 ga, .int .i64 gp, .int .i64 gy, .bool gg], .int .i64 er]) (by simp [results, Tryz.results41, go_sem, *]) rfl ?_
  rcases HOR.out with ⟨q1, q2⟩ | ⟨q1, q2, q3⟩
  · have hs := do_fin (s := s) HM.out q2 HMV.out HF6.out (.int .u64 gb) (.int .u64 gt) (.int .u64 ga) (.int .i64 gp) (.int .i64 gy) (.bool gg)
    exact ⟨⟨gb, gt, ga, gp, gy, gg⟩, F', rfl, Or.inl ⟨q1, hs.1⟩, hs.2⟩
  · have hs := do_fin (s := s) HM.out q3 HMV.out HF6.out (.int .u64 gb) (.int .u64 gt) (.int .u64 ga) (.int .i64 gp) (.int .i64 gy) (.bool gg)
    exact ⟨⟨gb, gt, ga, gp, gy, gg⟩, F', rfl, Or.inr ⟨q1, q2, hs.1⟩, hs.2⟩
theorem mc_undrew {w w' : World} {F F' : Nat → Prop} {A : Nat} (h : McMv w.drew w' F F' A) : McMv w w' F F' A := ⟨h.sub, ⟨h.kp.os, h.kp.tape, h.kp.output, h.kp.size, h.kp.block⟩⟩
theorem saveP_err {m : Mm} {op : Nat} {c v : Cp} (h : (saveP m op c v).2 ≠ 0) : (saveP m op c v).1 = m := by
  unfold saveP saveCapP storeF storeC at *
  simp only [] at *
  repeat' split
  all_goals first | rfl | (exfalso; simp_all; done)
set_option maxHeartbeats 8000000 in
theorem do_save (W : World) (N A M : Nat) (F : Nat → Prop) (s : Mch) (h : McS W N A M F s) (nt : Is.NT W) (op rd r1 r2 : Nat) (n : Int) (o1 : 1 ≤ op) (o2 : op ≤ 82) (hrd : rd < 32) (h1 : r1 < 32) (h2 : r2 < 32) (hk : Is.kindO (op : Int) = 4) :
    Calls Tryz.prog 41 #[.pointer (some ⟨A, 0, none⟩), .agg #[.int .i64 (op : Int), .int .i64 (rd : Int), .int .i64 (r1 : Int), .int .i64 (r2 : Int), .int .i64 n]] W fun e w' => DoR W N A M F s ⟨aheadP s.pc 4, s.rs, (saveP s.m op (placeP ⟨op, rd, r1, r2, n⟩ s.rs) (regP s.rs r2)).1⟩ (saveP s.m op (placeP ⟨op, rd, r1, r2, n⟩ s.rs) (regP s.rs r2)).2 e w' := by
  have HA := Lib.hid (fun w (hb : Below W.heap.size W w) => ahead_any w A M s.pc s.rs (h.mc.below hb) 4)
  have HKD := Lib.hid (fun w (hb : Below W.heap.size W w) => Is.kind_any (op : Int) w (nt.on hb))
  rw [hk] at HKD
  have herr := @saveP_err s.m op (placeP ⟨op, rd, r1, r2, n⟩ s.rs) (regP s.rs r2)
  have HSV := Lib.hid (fun w (hb : Below W.heap.size W w) => save_any w N A M F s (h.below hb) (nt.on hb) ⟨op, rd, r1, r2, n⟩ h1 h2)
  simp only [] at HSV
  obtain ⟨⟨m1, er⟩, hsp⟩ : ∃ q, saveP s.m op (placeP ⟨op, rd, r1, r2, n⟩ s.rs) (regP s.rs r2) = q := ⟨_, rfl⟩
  rw [hsp] at HSV herr ⊢
  unfold insV at HSV
  simp only [] at HSV herr ⊢
  have HERR := Lib.hid herr
  clear hsp herr
  obtain ⟨nx, hnx⟩ : ∃ c, aheadP s.pc 4 = c := ⟨_, rfl⟩
  rw [hnx] at HA ⊢
  obtain ⟨nb, nt_, na, np, ny, ng⟩ := nx
  unfold capC at HA
  simp only [] at HA
  obtain ⟨b1, b2, b3, b4⟩ := boxes2 W #[.int .i64 (op : Int), .int .i64 (rd : Int), .int .i64 (r1 : Int), .int .i64 (r2 : Int), .int .i64 n] zer6 61 24
  obtain ⟨W0, hW0⟩ : ∃ W0, (W.alloc (.cells #[.int .i64 (op : Int), .int .i64 (rd : Int), .int .i64 (r1 : Int), .int .i64 (r2 : Int), .int .i64 n] 61)).alloc (.cells zer6 24) = W0 := ⟨_, rfl⟩
  rw [hW0] at b1 b2 b3 b4
  have HW0 := Lib.hid hW0
  have HB0 := Lib.hid b1
  have HX0 := Lib.hid b2
  have HZ0 := Lib.hid b3
  have HS0 := Lib.hid b4
  have HM := Lib.hid h
  clear hW0 b1 b2 b3 b4 h nt hnx hk
  go_enter Tryz.func41, Tryz.ntmps41
  go_upto_region 1 with fail
  (try rw [HW0.out])
  clear HW0
  go_wp2_with fail
  refine (HA.out W0 HB0.out).mono ?_; rintro e w1 ⟨rfl, hb⟩
  have HB1 := Lib.hid (HB0.out.trans (hb.mono HB0.out.size))
  have HX1 := Lib.hid (boxN_below HX0.out hb)
  have HZ1 := Lib.hid (boxN_below HZ0.out hb)
  have HL1 : Hid (W.heap.size + 1 < w1.heap.size) := Lib.hid HZ1.out.lt
  clear hb HA HB0 HX0 HZ0 HS0
  go_upto_region 2 with fail
  obtain ⟨w2, hw2⟩ : ∃ w2, w1.alloc (.cells #[.int .u64 nb, .int .u64 nt_, .int .u64 na, .int .i64 np, .int .i64 ny, .bool ng] 24) = w2 := ⟨_, rfl⟩
  have hba : Below w1.heap.size w1 w2 := by rw [← hw2]; exact bAlloc (Below.refl _ _) _
  have hX2 : BoxN w2 w1.heap.size #[.int .u64 nb, .int .u64 nt_, .int .u64 na, .int .i64 np, .int .i64 ny, .bool ng] := by rw [← hw2]; exact BoxN.new _ _ _
  rw [hw2]
  have HD2 : Hid (DoS W w2 w1.heap.size #[.int .i64 (op : Int), .int .i64 (rd : Int), .int .i64 (r1 : Int), .int .i64 (r2 : Int), .int .i64 n] #[.int .u64 nb, .int .u64 nt_, .int .u64 na, .int .i64 np, .int .i64 ny, .bool ng]) := Lib.hid ⟨HB1.out.trans (hba.mono HB1.out.size), boxN_below HX1.out hba, boxN_below HZ1.out hba, hX2, HL1.out⟩
  obtain ⟨B6, hB6⟩ : ∃ b, w1.heap.size = b := ⟨_, rfl⟩
  rw [hB6] at HD2 ⊢
  have x0 : w2.cell? ⟨W.heap.size, 0, none⟩ = some (.int .i64 (op : Int)) := HD2.out.x.cell 0
  clear hw2 hba hX2 hB6 HB1 HX1 HZ1 HL1
  go_wp2_with fail
  refine (HKD.out w2 HD2.out.b).mono ?_; rintro e w3 ⟨rfl, hb3⟩
  have HD := Lib.hid (HD2.out.below hb3)
  clear hb3 HD2 HKD x0
  have HSX := Lib.hid (fun (w : World) (hb : Below w3.heap.size w3 w) => (show (w.cell? ⟨W.heap.size, 0, none⟩ = some (.int .i64 (op : Int)) ∧ w.cell? ⟨W.heap.size, 1, none⟩ = some (.int .i64 (rd : Int)) ∧ w.cell? ⟨W.heap.size, 2, none⟩ = some (.int .i64 (r1 : Int)) ∧ w.cell? ⟨W.heap.size, 3, none⟩ = some (.int .i64 (r2 : Int)) ∧ w.cell? ⟨W.heap.size, 4, none⟩ = some (.int .i64 n)) ∧ (w.cell? ⟨B6, 0, none⟩ = some (.int .u64 nb) ∧ w.cell? ⟨B6, 1, none⟩ = some (.int .u64 nt_) ∧ w.cell? ⟨B6, 2, none⟩ = some (.int .u64 na) ∧ w.cell? ⟨B6, 3, none⟩ = some (.int .i64 np) ∧ w.cell? ⟨B6, 4, none⟩ = some (.int .i64 ny) ∧ w.cell? ⟨B6, 5, none⟩ = some (.bool ng)) from ⟨⟨(boxN_below HD.out.x hb).cell 0, (boxN_below HD.out.x hb).cell 1, (boxN_below HD.out.x hb).cell 2, (boxN_below HD.out.x hb).cell 3, (boxN_below HD.out.x hb).cell 4⟩, (boxN6 (boxN_below HD.out.n hb)).1⟩))
  have HN0 := Lib.hid (Below.refl w3.heap.size w3)
  have HB3 := Lib.hid HD.out.b
  go_upto_region 11 with fail
  go_region_held3 (fun W1 => (W1.cell? ⟨W.heap.size, 0, none⟩ = some (.int .i64 (op : Int)) ∧ W1.cell? ⟨W.heap.size, 1, none⟩ = some (.int .i64 (rd : Int)) ∧ W1.cell? ⟨W.heap.size, 2, none⟩ = some (.int .i64 (r1 : Int)) ∧ W1.cell? ⟨W.heap.size, 3, none⟩ = some (.int .i64 (r2 : Int)) ∧ W1.cell? ⟨W.heap.size, 4, none⟩ = some (.int .i64 n)) ∧ (W1.cell? ⟨B6, 0, none⟩ = some (.int .u64 nb) ∧ W1.cell? ⟨B6, 1, none⟩ = some (.int .u64 nt_) ∧ W1.cell? ⟨B6, 2, none⟩ = some (.int .u64 na) ∧ W1.cell? ⟨B6, 3, none⟩ = some (.int .i64 np) ∧ W1.cell? ⟨B6, 4, none⟩ = some (.int .i64 ny) ∧ W1.cell? ⟨B6, 5, none⟩ = some (.bool ng)))
    (first | with_reducible exact HS7.out | with_reducible exact HS6.out | exact HSX.out _ (by first | ((repeat (first | with_reducible exact HN0.out | with_reducible refine Below.drew ?_)); done) | fail))
    (first
      | (go_at_call 94; (with_reducible refine (HSV.out _ (by first | exact HB3.out | exact Below.drew HB3.out)).mono ?_); rintro e W6 ⟨rfl, F', hq, hm⟩; have HD5 : Hid (DoS W w3.drew B6 #[.int .i64 (op : Int), .int .i64 (rd : Int), .int .i64 (r1 : Int), .int .i64 (r2 : Int), .int .i64 n] #[.int .u64 nb, .int .u64 nt_, .int .u64 na, .int .i64 np, .int .i64 ny, .bool ng]) := Lib.hid (HD.out.below (Below.drew (Below.refl _ _))); have hm0 : McMv w3 W6 F F' A := (by first | exact hm | exact mc_undrew hm); have hx6 := HD.out.mv HM.out hm0; have HS6 : Hid ((W6.cell? ⟨W.heap.size, 0, none⟩ = some (.int .i64 (op : Int)) ∧ W6.cell? ⟨W.heap.size, 1, none⟩ = some (.int .i64 (rd : Int)) ∧ W6.cell? ⟨W.heap.size, 2, none⟩ = some (.int .i64 (r1 : Int)) ∧ W6.cell? ⟨W.heap.size, 3, none⟩ = some (.int .i64 (r2 : Int)) ∧ W6.cell? ⟨W.heap.size, 4, none⟩ = some (.int .i64 n)) ∧ (W6.cell? ⟨B6, 0, none⟩ = some (.int .u64 nb) ∧ W6.cell? ⟨B6, 1, none⟩ = some (.int .u64 nt_) ∧ W6.cell? ⟨B6, 2, none⟩ = some (.int .u64 na) ∧ W6.cell? ⟨B6, 3, none⟩ = some (.int .i64 np) ∧ W6.cell? ⟨B6, 4, none⟩ = some (.int .i64 ny) ∧ W6.cell? ⟨B6, 5, none⟩ = some (.bool ng))) := Lib.hid ⟨⟨hx6.1.cell 0, hx6.1.cell 1, hx6.1.cell 2, hx6.1.cell 3, hx6.1.cell 4⟩, (boxN6 hx6.2.2).1⟩; obtain ⟨⟨i0, i1, i2, i3, i4, i5⟩, j0, j1, j2, j3, j4, j5⟩ := boxN6 hx6.2.1; have hy6 := box_off6 (R := W.heap.size + 1) hx6.1 (by omega) (.int .u64 nb) (.int .u64 nt_) (.int .u64 na) (.int .i64 np) (.int .i64 ny) (.bool ng); have hz6 := box_off6 (R := W.heap.size + 1) hx6.2.2 (by have := HD.out.lt; omega) (.int .u64 nb) (.int .u64 nt_) (.int .u64 na) (.int .i64 np) (.int .i64 ny) (.bool ng); have HS7 := Lib.hid (And.intro (box5 hy6).1 (boxN6 hz6).1); have HR6 := Lib.hid (HD.out.end_ HM.out hq hm0); have HF6 := Lib.hid (HD.out.nf HM.out hm0); clear hq hm hm0 hx6 hy6 hz6))
  go_wp2_with fail
  refine bodyPost_ret (v := .tuple #[.agg #[.int .u64 nb, .int .u64 nt_, .int .u64 na, .int .i64 np, .int .i64 ny, .bool ng], .int .i64 er]) (by simp [results, Tryz.results41, go_sem, *]) rfl ?_
  have hs := do_fin (s := s) HM.out HR6.out.1 HR6.out.2 HF6.out (.int .u64 nb) (.int .u64 nt_) (.int .u64 na) (.int .i64 np) (.int .i64 ny) (.bool ng)
  by_cases hz : er = 0
  · exact ⟨⟨nb, nt_, na, np, ny, ng⟩, F', rfl, Or.inr ⟨hz, rfl, hs.1⟩, hs.2⟩
  · have he := HERR.out hz
    refine ⟨⟨nb, nt_, na, np, ny, ng⟩, F', rfl, Or.inl ⟨hz, ?_⟩, hs.2⟩
    have h3 := hs.1
    rw [he] at h3
    exact h3
set_option maxHeartbeats 8000000 in
theorem do_jump (W : World) (N A M : Nat) (F : Nat → Prop) (s : Mch) (h : McS W N A M F s) (nt : Is.NT W) (op rd r1 r2 : Nat) (n : Int) (o1 : 1 ≤ op) (o2 : op ≤ 82) (hrd : rd < 32) (h1 : r1 < 32) (h2 : r2 < 32) (hk : Is.kindO (op : Int) = 7) :
    Calls Tryz.prog 41 #[.pointer (some ⟨A, 0, none⟩), .agg #[.int .i64 (op : Int), .int .i64 (rd : Int), .int .i64 (r1 : Int), .int .i64 (r2 : Int), .int .i64 n]] W fun e w' => DoR W N A M F s ⟨aheadP s.pc (IntKind.u64.wrap n), putP s.rs rd (aheadP s.pc 4), s.m⟩ 0 e w' := by
  have HA := Lib.hid (fun w (hb : Below W.heap.size W w) => ahead_any w A M s.pc s.rs (h.mc.below hb) 4)
  have HKD := Lib.hid (fun w (hb : Below W.heap.size W w) => Is.kind_any (op : Int) w (nt.on hb))
  rw [hk] at HKD
  have HWR := Lib.hid (fun w (hb : Below W.heap.size W w) => mwriteS_any w N A M F s (h.below hb) rd hrd (aheadP s.pc 4) (fit_ahead h.fpc 4))
  obtain ⟨rs1, hrs⟩ : ∃ q, putP s.rs rd (aheadP s.pc 4) = q := ⟨_, rfl⟩
  rw [hrs] at HWR ⊢
  have HA2 := Lib.hid (fun w (hq : McAt w A M s.pc rs1) => ahead_any w A M s.pc rs1 hq (IntKind.u64.wrap n))
  obtain ⟨gv, hgv⟩ : ∃ c, aheadP s.pc (IntKind.u64.wrap n) = c := ⟨_, rfl⟩
  rw [hgv] at HA2 ⊢
  obtain ⟨gb, gt, ga, gp, gy, gg⟩ := gv
  unfold capC at HA2
  simp only [] at HA2
  clear hgv hrs
  obtain ⟨nx, hnx⟩ : ∃ c, aheadP s.pc 4 = c := ⟨_, rfl⟩
  rw [hnx] at HA HWR
  obtain ⟨nb, nt_, na, np, ny, ng⟩ := nx
  unfold capC at HA HWR
  simp only [] at HA HWR
  obtain ⟨b1, b2, b3, b4⟩ := boxes2 W #[.int .i64 (op : Int), .int .i64 (rd : Int), .int .i64 (r1 : Int), .int .i64 (r2 : Int), .int .i64 n] zer6 61 24
  obtain ⟨W0, hW0⟩ : ∃ W0, (W.alloc (.cells #[.int .i64 (op : Int), .int .i64 (rd : Int), .int .i64 (r1 : Int), .int .i64 (r2 : Int), .int .i64 n] 61)).alloc (.cells zer6 24) = W0 := ⟨_, rfl⟩
  rw [hW0] at b1 b2 b3 b4
  have HW0 := Lib.hid hW0
  have HB0 := Lib.hid b1
  have HX0 := Lib.hid b2
  have HZ0 := Lib.hid b3
  have HS0 := Lib.hid b4
  have HM := Lib.hid h
  clear hW0 b1 b2 b3 b4 h nt hnx hk
  go_enter Tryz.func41, Tryz.ntmps41
  go_upto_region 1 with fail
  (try rw [HW0.out])
  clear HW0
  go_wp2_with fail
  refine (HA.out W0 HB0.out).mono ?_; rintro e w1 ⟨rfl, hb⟩
  have HB1 := Lib.hid (HB0.out.trans (hb.mono HB0.out.size))
  have HX1 := Lib.hid (boxN_below HX0.out hb)
  have HZ1 := Lib.hid (boxN_below HZ0.out hb)
  have HL1 : Hid (W.heap.size + 1 < w1.heap.size) := Lib.hid HZ1.out.lt
  clear hb HA HB0 HX0 HZ0 HS0
  go_upto_region 2 with fail
  obtain ⟨w2, hw2⟩ : ∃ w2, w1.alloc (.cells #[.int .u64 nb, .int .u64 nt_, .int .u64 na, .int .i64 np, .int .i64 ny, .bool ng] 24) = w2 := ⟨_, rfl⟩
  have hba : Below w1.heap.size w1 w2 := by rw [← hw2]; exact bAlloc (Below.refl _ _) _
  have hX2 : BoxN w2 w1.heap.size #[.int .u64 nb, .int .u64 nt_, .int .u64 na, .int .i64 np, .int .i64 ny, .bool ng] := by rw [← hw2]; exact BoxN.new _ _ _
  rw [hw2]
  have HD2 : Hid (DoS W w2 w1.heap.size #[.int .i64 (op : Int), .int .i64 (rd : Int), .int .i64 (r1 : Int), .int .i64 (r2 : Int), .int .i64 n] #[.int .u64 nb, .int .u64 nt_, .int .u64 na, .int .i64 np, .int .i64 ny, .bool ng]) := Lib.hid ⟨HB1.out.trans (hba.mono HB1.out.size), boxN_below HX1.out hba, boxN_below HZ1.out hba, hX2, HL1.out⟩
  obtain ⟨B6, hB6⟩ : ∃ b, w1.heap.size = b := ⟨_, rfl⟩
  rw [hB6] at HD2 ⊢
  have x0 : w2.cell? ⟨W.heap.size, 0, none⟩ = some (.int .i64 (op : Int)) := HD2.out.x.cell 0
  clear hw2 hba hX2 hB6 HB1 HX1 HZ1 HL1
  go_wp2_with fail
  refine (HKD.out w2 HD2.out.b).mono ?_; rintro e w3 ⟨rfl, hb3⟩
  have HD := Lib.hid (HD2.out.below hb3)
  clear hb3 HD2 HKD x0
  obtain ⟨⟨p0, p1, p2, p3, p4⟩, -⟩ := box5 HD.out.x
  obtain ⟨⟨e0, e1, e2, e3, e4, e5⟩, -⟩ := boxN6 HD.out.n
  obtain ⟨⟨i0, i1, i2, i3, i4, i5⟩, j0, j1, j2, j3, j4, j5⟩ := boxN6 HD.out.z
  go_wp2_with fail
  refine (HWR.out w3 HD.out.b).mono ?_; rintro e W6 ⟨rfl, hq, hm⟩
  have HD6 := Lib.hid (HD.out.mv HM.out hm)
  have HF6 := Lib.hid (HD.out.nf HM.out hm)
  have HR5 := Lib.hid (HD.out.end_ HM.out hq hm)
  clear hq hm HWR HD p0 p1 p2 p3 p4 e0 e1 e2 e3 e4 e5 i0 i1 i2 i3 i4 i5 j0 j1 j2 j3 j4 j5
  obtain ⟨⟨p0, p1, p2, p3, p4⟩, -⟩ := box5 HD6.out.1
  go_wp2_with fail
  refine (HA2.out W6 HR5.out.1.mc).mono ?_; rintro e W7 ⟨rfl, hb7⟩
  have HR6 := Lib.hid (And.intro (HR5.out.1.below hb7) (HR5.out.2.trans (McMv.of_below F A hb7) HM.out.mc.lt))
  obtain ⟨⟨i0, i1, i2, i3, i4, i5⟩, j0, j1, j2, j3, j4, j5⟩ := boxN6 (boxN_below HD6.out.2.1 hb7)
  clear hb7 HA2 p0 p1 p2 p3 p4
  go_wp2_with fail
  refine bodyPost_ret (v := .tuple #[.agg #[.int .u64 gb, .int .u64 gt, .int .u64 ga, .int .i64 gp, .int .i64 gy, .bool gg], .int .i64 0]) (by simp [results, Tryz.results41, go_sem, *]) rfl ?_
  have hs := do_fin (s := s) HM.out HR6.out.1 HR6.out.2 HF6.out (.int .u64 gb) (.int .u64 gt) (.int .u64 ga) (.int .i64 gp) (.int .i64 gy) (.bool gg)
  exact ⟨⟨gb, gt, ga, gp, gy, gg⟩, F, rfl, Or.inr ⟨rfl, rfl, hs.1⟩, hs.2⟩
set_option maxHeartbeats 8000000 in
theorem do_none (W : World) (N A M : Nat) (F : Nat → Prop) (s : Mch) (h : McS W N A M F s) (nt : Is.NT W) (op rd r1 r2 : Nat) (n : Int) (o1 : 1 ≤ op) (o2 : op ≤ 82) (hrd : rd < 32) (h1 : r1 < 32) (h2 : r2 < 32) (hk : Is.kindO (op : Int) = 9) :
    Calls Tryz.prog 41 #[.pointer (some ⟨A, 0, none⟩), .agg #[.int .i64 (op : Int), .int .i64 (rd : Int), .int .i64 (r1 : Int), .int .i64 (r2 : Int), .int .i64 n]] W fun e w' => DoR W N A M F s s (if nameP ⟨op, rd, r1, r2, n⟩ == [101, 99, 97, 108, 108] then 60 else 61) e w' := by
  have HA := Lib.hid (fun w (hb : Below W.heap.size W w) => ahead_any w A M s.pc s.rs (h.mc.below hb) 4)
  have HKD := Lib.hid (fun w (hb : Below W.heap.size W w) => Is.kind_any (op : Int) w (nt.on hb))
  rw [hk] at HKD
  have HST := Lib.hid (fun w (hb : Below W.heap.size W w) => stopped_any ⟨op, rd, r1, r2, n⟩ w (nt.on hb))
  have hne : (if nameP ⟨op, rd, r1, r2, n⟩ == [101, 99, 97, 108, 108] then (60 : Int) else 61) ≠ 0 := by split <;> decide
  obtain ⟨er, her⟩ : ∃ q, (if nameP ⟨op, rd, r1, r2, n⟩ == [101, 99, 97, 108, 108] then (60 : Int) else 61) = q := ⟨_, rfl⟩
  rw [her] at HST hne ⊢
  unfold insV at HST
  simp only [] at HST
  have HNE := Lib.hid hne
  clear her hne
  obtain ⟨nx, hnx⟩ : ∃ c, aheadP s.pc 4 = c := ⟨_, rfl⟩
  rw [hnx] at HA
  obtain ⟨nb, nt_, na, np, ny, ng⟩ := nx
  unfold capC at HA
  simp only [] at HA
  obtain ⟨b1, b2, b3, b4⟩ := boxes2 W #[.int .i64 (op : Int), .int .i64 (rd : Int), .int .i64 (r1 : Int), .int .i64 (r2 : Int), .int .i64 n] zer6 61 24
  obtain ⟨W0, hW0⟩ : ∃ W0, (W.alloc (.cells #[.int .i64 (op : Int), .int .i64 (rd : Int), .int .i64 (r1 : Int), .int .i64 (r2 : Int), .int .i64 n] 61)).alloc (.cells zer6 24) = W0 := ⟨_, rfl⟩
  rw [hW0] at b1 b2 b3 b4
  have HW0 := Lib.hid hW0
  have HB0 := Lib.hid b1
  have HX0 := Lib.hid b2
  have HZ0 := Lib.hid b3
  have HS0 := Lib.hid b4
  have HM := Lib.hid h
  clear hW0 b1 b2 b3 b4 h nt hnx hk
  go_enter Tryz.func41, Tryz.ntmps41
  go_upto_region 1 with fail
  (try rw [HW0.out])
  clear HW0
  go_wp2_with fail
  refine (HA.out W0 HB0.out).mono ?_; rintro e w1 ⟨rfl, hb⟩
  have HB1 := Lib.hid (HB0.out.trans (hb.mono HB0.out.size))
  have HX1 := Lib.hid (boxN_below HX0.out hb)
  have HZ1 := Lib.hid (boxN_below HZ0.out hb)
  have HL1 : Hid (W.heap.size + 1 < w1.heap.size) := Lib.hid HZ1.out.lt
  clear hb HA HB0 HX0 HZ0 HS0
  go_upto_region 2 with fail
  obtain ⟨w2, hw2⟩ : ∃ w2, w1.alloc (.cells #[.int .u64 nb, .int .u64 nt_, .int .u64 na, .int .i64 np, .int .i64 ny, .bool ng] 24) = w2 := ⟨_, rfl⟩
  have hba : Below w1.heap.size w1 w2 := by rw [← hw2]; exact bAlloc (Below.refl _ _) _
  have hX2 : BoxN w2 w1.heap.size #[.int .u64 nb, .int .u64 nt_, .int .u64 na, .int .i64 np, .int .i64 ny, .bool ng] := by rw [← hw2]; exact BoxN.new _ _ _
  rw [hw2]
  have HD2 : Hid (DoS W w2 w1.heap.size #[.int .i64 (op : Int), .int .i64 (rd : Int), .int .i64 (r1 : Int), .int .i64 (r2 : Int), .int .i64 n] #[.int .u64 nb, .int .u64 nt_, .int .u64 na, .int .i64 np, .int .i64 ny, .bool ng]) := Lib.hid ⟨HB1.out.trans (hba.mono HB1.out.size), boxN_below HX1.out hba, boxN_below HZ1.out hba, hX2, HL1.out⟩
  obtain ⟨B6, hB6⟩ : ∃ b, w1.heap.size = b := ⟨_, rfl⟩
  rw [hB6] at HD2 ⊢
  have x0 : w2.cell? ⟨W.heap.size, 0, none⟩ = some (.int .i64 (op : Int)) := HD2.out.x.cell 0
  clear hw2 hba hX2 hB6 HB1 HX1 HZ1 HL1
  go_wp2_with fail
  refine (HKD.out w2 HD2.out.b).mono ?_; rintro e w3 ⟨rfl, hb3⟩
  have HD := Lib.hid (HD2.out.below hb3)
  clear hb3 HD2 HKD x0
  obtain ⟨⟨p0, p1, p2, p3, p4⟩, -⟩ := box5 HD.out.x
  obtain ⟨⟨e0, e1, e2, e3, e4, e5⟩, -⟩ := boxN6 HD.out.n
  obtain ⟨⟨i0, i1, i2, i3, i4, i5⟩, j0, j1, j2, j3, j4, j5⟩ := boxN6 HD.out.z
  go_wp2_with fail
  refine (HST.out w3 HD.out.b).mono ?_; rintro e W6 ⟨rfl, hb6⟩
  have HD6 := Lib.hid (HD.out.below hb6)
  have HR6 : Hid (McS W6 N A M F s ∧ McMv W W6 F F A) := Lib.hid ⟨HM.out.below HD6.out.b, McMv.of_below F A HD6.out.b⟩
  have HF6 : Hid (∀ b, F b → b ≠ W.heap.size + 1) := Lib.hid (fun b hb e => by have := HM.out.own.lt b hb; omega)
  clear hb6 HST HD p0 p1 p2 p3 p4 e0 e1 e2 e3 e4 e5 i0 i1 i2 i3 i4 i5 j0 j1 j2 j3 j4 j5
  obtain ⟨⟨i0, i1, i2, i3, i4, i5⟩, j0, j1, j2, j3, j4, j5⟩ := boxN6 HD6.out.z
  go_wp2_with fail
  refine bodyPost_ret (v := .tuple #[.agg #[.int .u64 0, .int .u64 0, .int .u64 0, .int .i64 0, .int .i64 0, .bool false], .int .i64 er]) (by simp [results, Tryz.results41, go_sem, *]) rfl ?_
  have hs := do_fin (s := s) HM.out HR6.out.1 HR6.out.2 HF6.out (.int .u64 0) (.int .u64 0) (.int .u64 0) (.int .i64 0) (.int .i64 0) (.bool false)
  exact ⟨⟨0, 0, 0, 0, 0, false⟩, F, rfl, Or.inl ⟨HNE.out, hs.1⟩, hs.2⟩
end Go.Proofs.YtegoddghfjfibaaGreatDoor

