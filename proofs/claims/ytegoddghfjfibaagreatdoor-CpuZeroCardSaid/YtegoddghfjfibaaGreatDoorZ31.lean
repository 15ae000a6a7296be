/- CuS -/
import Derived.Test.YtegoddghfjfibaaGreatDoorZ30
namespace Go.Proofs.YtegoddghfjfibaaGreatDoor
set_option linter.unusedVariables false
set_option linter.unusedSimpArgs false
open Go.Joins Go.ChangeShapes Go.WideShapes Go.ChangeAt Go.RowKit Go.Deep

/-- boxes in a world: the instruction, where to go on, the result -/
structure LjS (W w : World) (XV NV ZV : Array Value) : Prop where
  b : Below W.heap.size W w
  x : BoxN w W.heap.size XV
  n : BoxN w (W.heap.size + 1) NV
  z : BoxN w (W.heap.size + 2) ZV
theorem LjS.below {W w w' : World} {XV NV ZV : Array Value} (h : LjS W w XV NV ZV) (hb : Below w.heap.size w w') : LjS W w' XV NV ZV :=
  ⟨h.b.trans (hb.mono h.b.size), boxN_below h.x hb, boxN_below h.n hb, boxN_below h.z hb⟩
/-- a box that is made later stays behind what only a machine's own blocks changed -/
theorem McMv.box {W w w' : World} {N A M R : Nat} {F F' : Nat → Prop} {s : Mch} {cs : Array Value} (h : McS W N A M F s) (hb : Below W.heap.size W w) (hx : BoxN w R cs) (hR : W.heap.size ≤ R) (hm : McMv w w' F F' A) : BoxN w' R cs :=
  hx.kp hm.kp hx.lt (fun e => by
    rcases e with e | e
    · have := h.own.lt R e; omega
    · have := h.mc.lt; omega)
theorem McMv.set6 {W w : World} {N A M R : Nat} {F F' : Nat → Prop} {s s' : Mch} (h : McS w N A M F' s') (hm : McMv W w F F' A) (hR : W.heap.size ≤ R) (hA : A < W.heap.size) (hF : ∀ b, F' b → b ≠ R) (v0 v1 v2 v3 v4 v5 : Value) :
    McS ((((((w.setCell ⟨R, 0, none⟩ v0).setCell ⟨R, 1, none⟩ v1).setCell ⟨R, 2, none⟩ v2).setCell ⟨R, 3, none⟩ v3).setCell ⟨R, 4, none⟩ v4).setCell ⟨R, 5, none⟩ v5) N A M F' s' ∧
    McMv W ((((((w.setCell ⟨R, 0, none⟩ v0).setCell ⟨R, 1, none⟩ v1).setCell ⟨R, 2, none⟩ v2).setCell ⟨R, 3, none⟩ v3).setCell ⟨R, 4, none⟩ v4).setCell ⟨R, 5, none⟩ v5) F F' A := by
  have hk := kp6 (KP.refl w.heap.size (· = R) w) R (Or.inr rfl) v0 v1 v2 v3 v4 v5
  refine ⟨⟨⟨h.own.mem.kp hk (Nat.le_refl _) (fun b hf e => hF b hf e), h.own.ge, Nat.le_trans h.own.sz hk.size⟩, h.mc.off6 (by omega) v0 v1 v2 v3 v4 v5, h.na, h.fa, h.fpc, h.frs⟩, hm.sub, ?_⟩
  exact kp6 hm.kp R (Or.inl hR) v0 v1 v2 v3 v4 v5
set_option maxHeartbeats 8000000 in
theorem lj_jump (W : World) (N A M : Nat) (F : Nat → Prop) (s : Mch) (h : McS W N A M F s) (nt : Is.NT W) (op rd r1 r2 : Nat) (n : Int) (h1 : r1 < 32) (hrd : rd < 32) (cb ct ca cp cy : Int) (cg : Bool) (hpl : placeP ⟨op, rd, r1, r2, n⟩ s.rs = ⟨cb, ct, ca, cp, cy, cg⟩) (hc : FitC ⟨cb, ct, ca, cp, cy, cg⟩) (nb nt_ na np ny : Int) (ng : Bool) (hn : FitC ⟨nb, nt_, na, np, ny, ng⟩) (hnm : (opN (op : Int) == [99, 106, 97, 108, 114]) = true) :
    Calls Tryz.prog 93 #[.pointer (some ⟨A, 0, none⟩), .agg #[.int .i64 (op : Int), .int .i64 (rd : Int), .int .i64 (r1 : Int), .int .i64 (r2 : Int), .int .i64 n], .agg #[.int .u64 nb, .int .u64 nt_, .int .u64 na, .int .i64 np, .int .i64 ny, .bool ng]] W fun e w' => DoR W N A M F s ⟨⟨cb, ct, ca, cp, cy, cg⟩, putP s.rs rd ⟨nb, nt_, na, np, ny, ng⟩, s.m⟩ (jumpP ⟨cb, ct, ca, cp, cy, cg⟩) e w' := by
  have HNM := Lib.hid (fun w (hb : Below W.heap.size W w) => Is.name_any (op : Int) w (nt.on hb))
  obtain ⟨nmv, hnv⟩ : ∃ q, opN (op : Int) = q := ⟨_, rfl⟩
  rw [hnv] at HNM hnm
  have HJ := Lib.hid (fun w (hb : Below W.heap.size W w) => jump_any w N A M F s (h.below hb) rd hrd ⟨cb, ct, ca, cp, cy, cg⟩ ⟨nb, nt_, na, np, ny, ng⟩ hc hn)
  obtain ⟨er, her⟩ : ∃ q, jumpP ⟨cb, ct, ca, cp, cy, cg⟩ = q := ⟨_, rfl⟩
  rw [her] at HJ ⊢
  unfold capC at HJ
  simp only [] at HJ
  clear her
  obtain ⟨b1, b2, b3, b4, b5⟩ := boxes3 W #[.int .i64 (op : Int), .int .i64 (rd : Int), .int .i64 (r1 : Int), .int .i64 (r2 : Int), .int .i64 n] #[.int .u64 nb, .int .u64 nt_, .int .u64 na, .int .i64 np, .int .i64 ny, .bool ng] zer6 61 24 24
  obtain ⟨W0, hW0⟩ : ∃ W0, (((W.alloc (.cells #[.int .i64 (op : Int), .int .i64 (rd : Int), .int .i64 (r1 : Int), .int .i64 (r2 : Int), .int .i64 n] 61)).alloc (.cells #[.int .u64 nb, .int .u64 nt_, .int .u64 na, .int .i64 np, .int .i64 ny, .bool ng] 24)).alloc (.cells zer6 24)) = W0 := ⟨_, rfl⟩
  rw [hW0] at b1 b2 b3 b4 b5
  have C1 := mplace_any W0 A M s.pc s.rs (h.mc.below b1) ⟨op, rd, r1, r2, n⟩ h1
  rw [hpl] at C1
  unfold insV capC at C1
  simp only [] at C1
  have HC1 := Lib.hid C1
  have HW0 := Lib.hid hW0
  have HS0 : Hid (LjS W W0 #[.int .i64 (op : Int), .int .i64 (rd : Int), .int .i64 (r1 : Int), .int .i64 (r2 : Int), .int .i64 n] #[.int .u64 nb, .int .u64 nt_, .int .u64 na, .int .i64 np, .int .i64 ny, .bool ng] zer6) := Lib.hid ⟨b1, b2, b3, b4⟩
  have HM := Lib.hid h
  have HSZ := Lib.hid b5
  have x0 : W0.cell? ⟨W.heap.size, 0, none⟩ = some (.int .i64 (op : Int)) := b2.cell 0
  have x1 : W0.cell? ⟨W.heap.size, 1, none⟩ = some (.int .i64 (rd : Int)) := b2.cell 1
  have x2 : W0.cell? ⟨W.heap.size, 2, none⟩ = some (.int .i64 (r1 : Int)) := b2.cell 2
  have x3 : W0.cell? ⟨W.heap.size, 3, none⟩ = some (.int .i64 (r2 : Int)) := b2.cell 3
  have x4 : W0.cell? ⟨W.heap.size, 4, none⟩ = some (.int .i64 n) := b2.cell 4
  clear hW0 b1 b2 b3 b4 b5 h nt hpl hc hn C1 hnv
  go_enter Tryz.func93, Tryz.ntmps93
  go_upto_region 1 with fail
  (try rw [HW0.out])
  clear HW0
  go_wp2_with fail
  refine HC1.out.mono ?_; rintro e w1 ⟨rfl, hb⟩
  have HS1 := Lib.hid (HS0.out.below hb)
  clear HC1 HS0 hb x0 x1 x2 x3 x4
  go_upto_region 2 with fail
  obtain ⟨w2, hw2⟩ : ∃ w2, w1.alloc (.cells #[.int .u64 cb, .int .u64 ct, .int .u64 ca, .int .i64 cp, .int .i64 cy, .bool cg] 24) = w2 := ⟨_, rfl⟩
  have hba : Below w1.heap.size w1 w2 := by rw [← hw2]; exact bAlloc (Below.refl _ _) _
  have hX2 : BoxN w2 w1.heap.size #[.int .u64 cb, .int .u64 ct, .int .u64 ca, .int .i64 cp, .int .i64 cy, .bool cg] := by rw [← hw2]; exact BoxN.new _ _ _
  rw [hw2]
  have HS := Lib.hid (HS1.out.below hba)
  obtain ⟨B2, hB2⟩ : ∃ b, w1.heap.size = b := ⟨_, rfl⟩
  have HB2 : Hid (W.heap.size + 2 < B2) := Lib.hid (by rw [← hB2]; exact HS1.out.z.lt)
  rw [hB2] at hX2 ⊢
  have HX2 := Lib.hid hX2
  have HN2 := Lib.hid (HNM.out w2 HS.out.b)
  have x0 : w2.cell? ⟨W.heap.size, 0, none⟩ = some (.int .i64 (op : Int)) := HS.out.x.cell 0
  have x1 : w2.cell? ⟨W.heap.size, 1, none⟩ = some (.int .i64 (rd : Int)) := HS.out.x.cell 1
  clear hw2 hba hX2 hB2 HS1 HNM
  go_wp2_with fail
  refine HN2.out.mono ?_; rintro e w3 ⟨rfl, rfl⟩
  clear HN2
  obtain ⟨⟨c0, c1, c2, c3, c4, c5⟩, -⟩ := boxN6 HX2.out
  obtain ⟨⟨e0, e1, e2, e3, e4, e5⟩, -⟩ := boxN6 HS.out.n
  go_wp2_with fail
  refine (HJ.out w2 HS.out.b).mono ?_; rintro e w4 ⟨⟨gb, gt, ga, gp, gy, gg⟩, rfl, hor⟩
  have hz4 : BoxN w4 (W.heap.size + 2) zer6 := by
    rcases hor with ⟨-, hq⟩ | ⟨-, -, -, hq⟩
    · exact boxN_below HS.out.z hq
    · exact McMv.box HM.out HS.out.b HS.out.z (by omega) hq
  have HR : Hid ((er ≠ 0 ∧ McS w4 N A M F s ∧ McMv W w4 F F A) ∨ (er = 0 ∧ (⟨gb, gt, ga, gp, gy, gg⟩ : Cp) = ⟨cb, ct, ca, cp, cy, cg⟩ ∧ McS w4 N A M F ⟨s.pc, putP s.rs rd ⟨nb, nt_, na, np, ny, ng⟩, s.m⟩ ∧ McMv W w4 F F A)) := Lib.hid (by
    rcases hor with ⟨q1, hq⟩ | ⟨q1, q2, q3, hq⟩
    · exact Or.inl ⟨q1, (HM.out.below HS.out.b).below hq, McMv.of_below F A (HS.out.b.trans (hq.mono HS.out.b.size))⟩
    · exact Or.inr ⟨q1, q2, q3, (McMv.of_below F A HS.out.b).trans hq HM.out.mc.lt⟩)
  obtain ⟨⟨i0, i1, i2, i3, i4, i5⟩, j0, j1, j2, j3, j4, j5⟩ := boxN6 hz4
  clear hor hz4 HJ c0 c1 c2 c3 c4 c5 e0 e1 e2 e3 e4 e5 x0 x1
  go_wp2_with fail
  refine bodyPost_ret (v := .tuple #[.agg #[.int .u64 gb, .int .u64 gt, .int .u64 ga, .int .i64 gp, .int .i64 gy, .bool gg], .int .i64 er]) (by simp [results, Tryz.results93, go_sem, *]) rfl ?_
  rcases HR.out with ⟨q1, q2, q3⟩ | ⟨q1, q2, q3, q4⟩
  · have hf : ∀ b, F b → b ≠ W.heap.size + 2 := fun b hb e => by have := HM.out.own.lt b hb; omega
    have hs := McMv.set6 (s := s) q2 q3 (R := W.heap.size + 2) (by omega) HM.out.mc.lt hf (.int .u64 gb) (.int .u64 gt) (.int .u64 ga) (.int .i64 gp) (.int .i64 gy) (.bool gg)
    exact ⟨⟨gb, gt, ga, gp, gy, gg⟩, F, rfl, Or.inl ⟨q1, hs.1⟩, hs.2⟩
  · have hf : ∀ b, F b → b ≠ W.heap.size + 2 := fun b hb e => by have := HM.out.own.lt b hb; omega
    have hs := McMv.set6 (s := s) q3 q4 (R := W.heap.size + 2) (by omega) HM.out.mc.lt hf (.int .u64 gb) (.int .u64 gt) (.int .u64 ga) (.int .i64 gp) (.int .i64 gy) (.bool gg)
    exact ⟨⟨gb, gt, ga, gp, gy, gg⟩, F, rfl, Or.inr ⟨q1, q2, hs.1⟩, hs.2⟩
set_option maxHeartbeats 8000000 in
theorem lj_ok (W : World) (N A M : Nat) (F : Nat → Prop) (s : Mch) (h : McS W N A M F s) (nt : Is.NT W) (op rd r1 r2 : Nat) (n : Int) (h1 : r1 < 32) (hrd : rd < 32) (cb ct ca cp cy : Int) (cg : Bool) (hpl : placeP ⟨op, rd, r1, r2, n⟩ s.rs = ⟨cb, ct, ca, cp, cy, cg⟩) (hc : FitC ⟨cb, ct, ca, cp, cy, cg⟩) (nb nt_ na np ny : Int) (ng : Bool) (hn : FitC ⟨nb, nt_, na, np, ny, ng⟩) (hnm : (opN (op : Int) == [99, 106, 97, 108, 114]) = false) (he : (loadP s.m op ⟨cb, ct, ca, cp, cy, cg⟩).2 = 0) :
    Calls Tryz.prog 93 #[.pointer (some ⟨A, 0, none⟩), .agg #[.int .i64 (op : Int), .int .i64 (rd : Int), .int .i64 (r1 : Int), .int .i64 (r2 : Int), .int .i64 n], .agg #[.int .u64 nb, .int .u64 nt_, .int .u64 na, .int .i64 np, .int .i64 ny, .bool ng]] W fun e w' => DoR W N A M F s ⟨⟨nb, nt_, na, np, ny, ng⟩, putP s.rs rd (loadP s.m op ⟨cb, ct, ca, cp, cy, cg⟩).1, s.m⟩ 0 e w' := by
  have HNM := Lib.hid (fun w (hb : Below W.heap.size W w) => Is.name_any (op : Int) w (nt.on hb))
  obtain ⟨nmv, hnv⟩ : ∃ q, opN (op : Int) = q := ⟨_, rfl⟩
  rw [hnv] at HNM hnm
  have HL := Lib.hid (fun w (hb : Below W.heap.size W w) => mload_any w N A M F s (h.below hb) (nt.on hb) op ⟨cb, ct, ca, cp, cy, cg⟩ hc)
  have hfl := fit_load h.okm op ⟨cb, ct, ca, cp, cy, cg⟩
  rw [he] at HL
  obtain ⟨lc, hlc⟩ : ∃ q, (loadP s.m op ⟨cb, ct, ca, cp, cy, cg⟩).1 = q := ⟨_, rfl⟩
  rw [hlc] at HL hfl ⊢
  have HW := Lib.hid (fun w (hb : Below W.heap.size W w) => mwriteS_any w N A M F s (h.below hb) rd hrd lc hfl)
  obtain ⟨lb, lt, la, lp, ly, lg⟩ := lc
  unfold capC at HW
  simp only [] at HW
  clear hlc he hfl
  have hcc : ∀ d : Cp, (capC d).toArray = #[.int .u64 d.b, .int .u64 d.t, .int .u64 d.a, .int .i64 d.p, .int .i64 d.y, .bool d.g] := fun d => rfl
  obtain ⟨b1, b2, b3, b4, b5⟩ := boxes3 W #[.int .i64 (op : Int), .int .i64 (rd : Int), .int .i64 (r1 : Int), .int .i64 (r2 : Int), .int .i64 n] #[.int .u64 nb, .int .u64 nt_, .int .u64 na, .int .i64 np, .int .i64 ny, .bool ng] zer6 61 24 24
  obtain ⟨W0, hW0⟩ : ∃ W0, (((W.alloc (.cells #[.int .i64 (op : Int), .int .i64 (rd : Int), .int .i64 (r1 : Int), .int .i64 (r2 : Int), .int .i64 n] 61)).alloc (.cells #[.int .u64 nb, .int .u64 nt_, .int .u64 na, .int .i64 np, .int .i64 ny, .bool ng] 24)).alloc (.cells zer6 24)) = W0 := ⟨_, rfl⟩
  rw [hW0] at b1 b2 b3 b4 b5
  have C1 := mplace_any W0 A M s.pc s.rs (h.mc.below b1) ⟨op, rd, r1, r2, n⟩ h1
  rw [hpl] at C1
  unfold insV capC at C1
  simp only [] at C1
  have HC1 := Lib.hid C1
  have HW0 := Lib.hid hW0
  have HS0 : Hid (LjS W W0 #[.int .i64 (op : Int), .int .i64 (rd : Int), .int .i64 (r1 : Int), .int .i64 (r2 : Int), .int .i64 n] #[.int .u64 nb, .int .u64 nt_, .int .u64 na, .int .i64 np, .int .i64 ny, .bool ng] zer6) := Lib.hid ⟨b1, b2, b3, b4⟩
  have HM := Lib.hid h
  have HSZ := Lib.hid b5
  have x0 : W0.cell? ⟨W.heap.size, 0, none⟩ = some (.int .i64 (op : Int)) := b2.cell 0
  have x1 : W0.cell? ⟨W.heap.size, 1, none⟩ = some (.int .i64 (rd : Int)) := b2.cell 1
  have x2 : W0.cell? ⟨W.heap.size, 2, none⟩ = some (.int .i64 (r1 : Int)) := b2.cell 2
  have x3 : W0.cell? ⟨W.heap.size, 3, none⟩ = some (.int .i64 (r2 : Int)) := b2.cell 3
  have x4 : W0.cell? ⟨W.heap.size, 4, none⟩ = some (.int .i64 n) := b2.cell 4
  clear hW0 b1 b2 b3 b4 b5 h nt hpl hc hn C1 hnv
  go_enter Tryz.func93, Tryz.ntmps93
  go_upto_region 1 with fail
  (try rw [HW0.out])
  clear HW0
  go_wp2_with fail
  refine HC1.out.mono ?_; rintro e w1 ⟨rfl, hb⟩
  have HS1 := Lib.hid (HS0.out.below hb)
  clear HC1 HS0 hb x0 x1 x2 x3 x4
  go_upto_region 2 with fail
  obtain ⟨w2, hw2⟩ : ∃ w2, w1.alloc (.cells #[.int .u64 cb, .int .u64 ct, .int .u64 ca, .int .i64 cp, .int .i64 cy, .bool cg] 24) = w2 := ⟨_, rfl⟩
  have hba : Below w1.heap.size w1 w2 := by rw [← hw2]; exact bAlloc (Below.refl _ _) _
  have hX2 : BoxN w2 w1.heap.size #[.int .u64 cb, .int .u64 ct, .int .u64 ca, .int .i64 cp, .int .i64 cy, .bool cg] := by rw [← hw2]; exact BoxN.new _ _ _
  rw [hw2]
  have HS := Lib.hid (HS1.out.below hba)
  obtain ⟨B2, hB2⟩ : ∃ b, w1.heap.size = b := ⟨_, rfl⟩
  have HB2 : Hid (W.heap.size + 2 < B2) := Lib.hid (by rw [← hB2]; exact HS1.out.z.lt)
  rw [hB2] at hX2 ⊢
  have HX2 := Lib.hid hX2
  have HN2 := Lib.hid (HNM.out w2 HS.out.b)
  have x0 : w2.cell? ⟨W.heap.size, 0, none⟩ = some (.int .i64 (op : Int)) := HS.out.x.cell 0
  have x1 : w2.cell? ⟨W.heap.size, 1, none⟩ = some (.int .i64 (rd : Int)) := HS.out.x.cell 1
  clear hw2 hba hX2 hB2 HS1 HNM
  go_wp2_with fail
  refine HN2.out.mono ?_; rintro e w3 ⟨rfl, rfl⟩
  clear HN2
  obtain ⟨⟨c0, c1, c2, c3, c4, c5⟩, -⟩ := boxN6 HX2.out
  obtain ⟨⟨e0, e1, e2, e3, e4, e5⟩, -⟩ := boxN6 HS.out.n
  go_wp2_with fail
  refine (HL.out w2 HS.out.b).mono ?_; rintro e w4 ⟨⟨lb0, lt0, la0, lp0, ly0, lg0⟩, rfl, hor, hq⟩
  have hor2 : (⟨lb0, lt0, la0, lp0, ly0, lg0⟩ : Cp) = ⟨lb, lt, la, lp, ly, lg⟩ := by first | exact hor rfl | exact hor trivial
  cases hor2
  have HS4 := Lib.hid (HS.out.below hq)
  rw [hcc]
  simp only []
  clear hor hq HL HS c0 c1 c2 c3 c4 c5 e0 e1 e2 e3 e4 e5 x0 x1 hcc
  go_upto_region 5 with fail
  obtain ⟨w5, hw5⟩ : ∃ w5, w4.alloc (.cells #[.int .u64 lb, .int .u64 lt, .int .u64 la, .int .i64 lp, .int .i64 ly, .bool lg] 24) = w5 := ⟨_, rfl⟩
  have hba : Below w4.heap.size w4 w5 := by rw [← hw5]; exact bAlloc (Below.refl _ _) _
  have hX5 : BoxN w5 w4.heap.size #[.int .u64 lb, .int .u64 lt, .int .u64 la, .int .i64 lp, .int .i64 ly, .bool lg] := by rw [← hw5]; exact BoxN.new _ _ _
  rw [hw5]
  have HS := Lib.hid (HS4.out.below hba)
  obtain ⟨B5, hB5⟩ : ∃ b, w4.heap.size = b := ⟨_, rfl⟩
  rw [hB5] at hX5 ⊢
  have x0 : w5.cell? ⟨W.heap.size, 0, none⟩ = some (.int .i64 (op : Int)) := HS.out.x.cell 0
  have x1 : w5.cell? ⟨W.heap.size, 1, none⟩ = some (.int .i64 (rd : Int)) := HS.out.x.cell 1
  obtain ⟨⟨c0, c1, c2, c3, c4, c5⟩, -⟩ := boxN6 hX5
  clear hw5 hba hX5 hB5 HS4
  go_wp2_with fail
  refine (HW.out w5 HS.out.b).mono ?_; rintro e w6 ⟨rfl, hq, hm⟩
  have hz6 : BoxN w6 (W.heap.size + 2) zer6 := McMv.box HM.out HS.out.b HS.out.z (by omega) hm
  have hn6 : BoxN w6 (W.heap.size + 1) #[.int .u64 nb, .int .u64 nt_, .int .u64 na, .int .i64 np, .int .i64 ny, .bool ng] := McMv.box HM.out HS.out.b HS.out.n (by omega) hm
  have HR := Lib.hid (And.intro hq ((McMv.of_below F A HS.out.b).trans hm HM.out.mc.lt))
  clear HW hq hm HS c0 c1 c2 c3 c4 c5 x0 x1
  obtain ⟨⟨i0, i1, i2, i3, i4, i5⟩, j0, j1, j2, j3, j4, j5⟩ := boxN6 hz6
  obtain ⟨⟨e0, e1, e2, e3, e4, e5⟩, -⟩ := boxN6 hn6
  clear hz6 hn6
  go_wp2_with fail
  refine bodyPost_ret (v := .tuple #[.agg #[.int .u64 nb, .int .u64 nt_, .int .u64 na, .int .i64 np, .int .i64 ny, .bool ng], .int .i64 0]) (by simp [results, Tryz.results93, go_sem, *]) rfl ?_
  have hf : ∀ b, F b → b ≠ W.heap.size + 2 := fun b hb e => by have := HM.out.own.lt b hb; omega
  have hs := McMv.set6 (s := s) HR.out.1 HR.out.2 (R := W.heap.size + 2) (by omega) HM.out.mc.lt hf (.int .u64 nb) (.int .u64 nt_) (.int .u64 na) (.int .i64 np) (.int .i64 ny) (.bool ng)
  exact ⟨⟨nb, nt_, na, np, ny, ng⟩, F, rfl, Or.inr ⟨rfl, rfl, hs.1⟩, hs.2⟩
set_option maxHeartbeats 8000000 in
theorem lj_no (W : World) (N A M : Nat) (F : Nat → Prop) (s : Mch) (h : McS W N A M F s) (nt : Is.NT W) (op rd r1 r2 : Nat) (n : Int) (h1 : r1 < 32) (hrd : rd < 32) (cb ct ca cp cy : Int) (cg : Bool) (hpl : placeP ⟨op, rd, r1, r2, n⟩ s.rs = ⟨cb, ct, ca, cp, cy, cg⟩) (hc : FitC ⟨cb, ct, ca, cp, cy, cg⟩) (nb nt_ na np ny : Int) (ng : Bool) (hn : FitC ⟨nb, nt_, na, np, ny, ng⟩) (hnm : (opN (op : Int) == [99, 106, 97, 108, 114]) = false) (er : Int) (hee : (loadP s.m op ⟨cb, ct, ca, cp, cy, cg⟩).2 = er) (he : er ≠ 0) :
    Calls Tryz.prog 93 #[.pointer (some ⟨A, 0, none⟩), .agg #[.int .i64 (op : Int), .int .i64 (rd : Int), .int .i64 (r1 : Int), .int .i64 (r2 : Int), .int .i64 n], .agg #[.int .u64 nb, .int .u64 nt_, .int .u64 na, .int .i64 np, .int .i64 ny, .bool ng]] W fun e w' => DoR W N A M F s s er e w' := by
  have HNM := Lib.hid (fun w (hb : Below W.heap.size W w) => Is.name_any (op : Int) w (nt.on hb))
  obtain ⟨nmv, hnv⟩ : ∃ q, opN (op : Int) = q := ⟨_, rfl⟩
  rw [hnv] at HNM hnm
  have HL := Lib.hid (fun w (hb : Below W.heap.size W w) => mload_any w N A M F s (h.below hb) (nt.on hb) op ⟨cb, ct, ca, cp, cy, cg⟩ hc)
  rw [hee] at HL
  have q1 : (er == 0) = false := by simpa using he
  have HE := Lib.hid he
  clear hee he
  have hcc : ∀ d : Cp, (capC d).toArray = #[.int .u64 d.b, .int .u64 d.t, .int .u64 d.a, .int .i64 d.p, .int .i64 d.y, .bool d.g] := fun d => rfl
  obtain ⟨b1, b2, b3, b4, b5⟩ := boxes3 W #[.int .i64 (op : Int), .int .i64 (rd : Int), .int .i64 (r1 : Int), .int .i64 (r2 : Int), .int .i64 n] #[.int .u64 nb, .int .u64 nt_, .int .u64 na, .int .i64 np, .int .i64 ny, .bool ng] zer6 61 24 24
  obtain ⟨W0, hW0⟩ : ∃ W0, (((W.alloc (.cells #[.int .i64 (op : Int), .int .i64 (rd : Int), .int .i64 (r1 : Int), .int .i64 (r2 : Int), .int .i64 n] 61)).alloc (.cells #[.int .u64 nb, .int .u64 nt_, .int .u64 na, .int .i64 np, .int .i64 ny, .bool ng] 24)).alloc (.cells zer6 24)) = W0 := ⟨_, rfl⟩
  rw [hW0] at b1 b2 b3 b4 b5
  have C1 := mplace_any W0 A M s.pc s.rs (h.mc.below b1) ⟨op, rd, r1, r2, n⟩ h1
  rw [hpl] at C1
  unfold insV capC at C1
  simp only [] at C1
  have HC1 := Lib.hid C1
  have HW0 := Lib.hid hW0
  have HS0 : Hid (LjS W W0 #[.int .i64 (op : Int), .int .i64 (rd : Int), .int .i64 (r1 : Int), .int .i64 (r2 : Int), .int .i64 n] #[.int .u64 nb, .int .u64 nt_, .int .u64 na, .int .i64 np, .int .i64 ny, .bool ng] zer6) := Lib.hid ⟨b1, b2, b3, b4⟩
  have HM := Lib.hid h
  have HSZ := Lib.hid b5
  have x0 : W0.cell? ⟨W.heap.size, 0, none⟩ = some (.int .i64 (op : Int)) := b2.cell 0
  have x1 : W0.cell? ⟨W.heap.size, 1, none⟩ = some (.int .i64 (rd : Int)) := b2.cell 1
  have x2 : W0.cell? ⟨W.heap.size, 2, none⟩ = some (.int .i64 (r1 : Int)) := b2.cell 2
  have x3 : W0.cell? ⟨W.heap.size, 3, none⟩ = some (.int .i64 (r2 : Int)) := b2.cell 3
  have x4 : W0.cell? ⟨W.heap.size, 4, none⟩ = some (.int .i64 n) := b2.cell 4
  clear hW0 b1 b2 b3 b4 b5 h nt hpl hc hn C1 hnv
  go_enter Tryz.func93, Tryz.ntmps93
  go_upto_region 1 with fail
  (try rw [HW0.out])
  clear HW0
  go_wp2_with fail
  refine HC1.out.mono ?_; rintro e w1 ⟨rfl, hb⟩
  have HS1 := Lib.hid (HS0.out.below hb)
  clear HC1 HS0 hb x0 x1 x2 x3 x4
  go_upto_region 2 with fail
  obtain ⟨w2, hw2⟩ : ∃ w2, w1.alloc (.cells #[.int .u64 cb, .int .u64 ct, .int .u64 ca, .int .i64 cp, .int .i64 cy, .bool cg] 24) = w2 := ⟨_, rfl⟩
  have hba : Below w1.heap.size w1 w2 := by rw [← hw2]; exact bAlloc (Below.refl _ _) _
  have hX2 : BoxN w2 w1.heap.size #[.int .u64 cb, .int .u64 ct, .int .u64 ca, .int .i64 cp, .int .i64 cy, .bool cg] := by rw [← hw2]; exact BoxN.new _ _ _
  rw [hw2]
  have HS := Lib.hid (HS1.out.below hba)
  obtain ⟨B2, hB2⟩ : ∃ b, w1.heap.size = b := ⟨_, rfl⟩
  have HB2 : Hid (W.heap.size + 2 < B2) := Lib.hid (by rw [← hB2]; exact HS1.out.z.lt)
  rw [hB2] at hX2 ⊢
  have HX2 := Lib.hid hX2
  have HN2 := Lib.hid (HNM.out w2 HS.out.b)
  have x0 : w2.cell? ⟨W.heap.size, 0, none⟩ = some (.int .i64 (op : Int)) := HS.out.x.cell 0
  have x1 : w2.cell? ⟨W.heap.size, 1, none⟩ = some (.int .i64 (rd : Int)) := HS.out.x.cell 1
  clear hw2 hba hX2 hB2 HS1 HNM
  go_wp2_with fail
  refine HN2.out.mono ?_; rintro e w3 ⟨rfl, rfl⟩
  clear HN2
  obtain ⟨⟨c0, c1, c2, c3, c4, c5⟩, -⟩ := boxN6 HX2.out
  obtain ⟨⟨e0, e1, e2, e3, e4, e5⟩, -⟩ := boxN6 HS.out.n
  go_wp2_with fail
  refine (HL.out w2 HS.out.b).mono ?_; rintro e w4 ⟨⟨lb, lt, la, lp, ly, lg⟩, rfl, hor, hq⟩
  have HS4 := Lib.hid (HS.out.below hq)
  rw [hcc]
  simp only []
  clear hor hq HL HS c0 c1 c2 c3 c4 c5 e0 e1 e2 e3 e4 e5 x0 x1 hcc
  go_upto_region 5 with fail
  obtain ⟨w5, hw5⟩ : ∃ w5, w4.alloc (.cells #[.int .u64 lb, .int .u64 lt, .int .u64 la, .int .i64 lp, .int .i64 ly, .bool lg] 24) = w5 := ⟨_, rfl⟩
  have hba : Below w4.heap.size w4 w5 := by rw [← hw5]; exact bAlloc (Below.refl _ _) _
  have hX5 : BoxN w5 w4.heap.size #[.int .u64 lb, .int .u64 lt, .int .u64 la, .int .i64 lp, .int .i64 ly, .bool lg] := by rw [← hw5]; exact BoxN.new _ _ _
  rw [hw5]
  have HS := Lib.hid (HS4.out.below hba)
  obtain ⟨B5, hB5⟩ : ∃ b, w4.heap.size = b := ⟨_, rfl⟩
  rw [hB5] at hX5 ⊢
  have x0 : w5.cell? ⟨W.heap.size, 0, none⟩ = some (.int .i64 (op : Int)) := HS.out.x.cell 0
  have x1 : w5.cell? ⟨W.heap.size, 1, none⟩ = some (.int .i64 (rd : Int)) := HS.out.x.cell 1
  obtain ⟨⟨c0, c1, c2, c3, c4, c5⟩, -⟩ := boxN6 hX5
  clear hw5 hba hX5 hB5 HS4
  have HR := Lib.hid (And.intro (HM.out.below HS.out.b) (McMv.of_below F A HS.out.b))
  obtain ⟨⟨i0, i1, i2, i3, i4, i5⟩, j0, j1, j2, j3, j4, j5⟩ := boxN6 HS.out.z
  obtain ⟨⟨e0, e1, e2, e3, e4, e5⟩, -⟩ := boxN6 HS.out.n
  clear HS c0 c1 c2 c3 c4 c5 x0 x1
  go_wp2_with fail
  refine bodyPost_ret (v := .tuple #[.agg #[.int .u64 nb, .int .u64 nt_, .int .u64 na, .int .i64 np, .int .i64 ny, .bool ng], .int .i64 er]) (by simp [results, Tryz.results93, go_sem, *]) rfl ?_
  have hf : ∀ b, F b → b ≠ W.heap.size + 2 := fun b hb e => by have := HM.out.own.lt b hb; omega
  have hs := McMv.set6 (s := s) HR.out.1 HR.out.2 (R := W.heap.size + 2) (by omega) HM.out.mc.lt hf (.int .u64 nb) (.int .u64 nt_) (.int .u64 na) (.int .i64 np) (.int .i64 ny) (.bool ng)
  exact ⟨⟨nb, nt_, na, np, ny, ng⟩, F, rfl, Or.inl ⟨HE.out, hs.1⟩, hs.2⟩
/-- what a load, or a jump by a register, does -/
def ljP (s : Mch) (x : Ins) (next : Cp) : Mch × Int :=
  let c := placeP x s.rs
  if nameP x == [99, 106, 97, 108, 114] then
    if jumpP c ≠ 0 then (s, jumpP c) else (⟨c, putP s.rs x.rd next, s.m⟩, 0)
  else
    if (loadP s.m x.op c).2 ≠ 0 then (s, (loadP s.m x.op c).2) else (⟨next, putP s.rs x.rd (loadP s.m x.op c).1, s.m⟩, 0)
theorem DoR.eq0 {W : World} {N A M : Nat} {F : Nat → Prop} {s s' s'' : Mch} {er : Int} {e : Ending} {w' : World} (h : DoR W N A M F s s' er e w') (hne : er ≠ 0) : DoR W N A M F s s'' er e w' := by
  obtain ⟨d, F', h1, h2, h3⟩ := h
  rcases h2 with h2 | h2
  · exact ⟨d, F', h1, Or.inl h2, h3⟩
  · exact absurd h2.1 hne
theorem loadOrJump_any (W : World) (N A M : Nat) (F : Nat → Prop) (s : Mch) (h : McS W N A M F s) (nt : Is.NT W) (x : Ins) (h1 : x.r1 < 32) (hrd : x.rd < 32) (next : Cp) (hn : FitC next) :
    Calls Tryz.prog 93 #[.pointer (some ⟨A, 0, none⟩), .agg (insV x), .agg (capC next).toArray] W fun e w' => DoR W N A M F s (ljP s x next).1 (ljP s x next).2 e w' := by
  have hc := fit_place h.frs x
  obtain ⟨op, rd, r1, r2, n⟩ := x
  obtain ⟨nb, nt_, na, np, ny, ng⟩ := next
  obtain ⟨⟨cb, ct, ca, cp, cy, cg⟩, hpl⟩ : ∃ d, placeP ⟨op, rd, r1, r2, n⟩ s.rs = d := ⟨_, rfl⟩
  simp only [] at h1 hrd
  unfold ljP nameP insV
  rw [hpl] at hc ⊢
  simp only []
  by_cases hnm : (opN (op : Int) == [99, 106, 97, 108, 114]) = true
  · rw [if_pos hnm]
    have := lj_jump W N A M F s h nt op rd r1 r2 n h1 hrd cb ct ca cp cy cg hpl hc nb nt_ na np ny ng hn hnm
    by_cases hj : jumpP ⟨cb, ct, ca, cp, cy, cg⟩ = 0
    · rw [if_neg (by simpa using hj)]
      exact this.mono fun e w' q => by rw [hj] at q; exact q
    · rw [if_pos hj]
      exact this.mono fun e w' q => q.eq0 hj
  · rw [if_neg hnm]
    rw [Bool.not_eq_true] at hnm
    by_cases he : (loadP s.m op ⟨cb, ct, ca, cp, cy, cg⟩).2 = 0
    · rw [if_neg (by simpa using he)]
      exact lj_ok W N A M F s h nt op rd r1 r2 n h1 hrd cb ct ca cp cy cg hpl hc nb nt_ na np ny ng hn hnm he
    · rw [if_pos he]
      exact lj_no W N A M F s h nt op rd r1 r2 n h1 hrd cb ct ca cp cy cg hpl hc nb nt_ na np ny ng hn hnm _ rfl he
end Go.Proofs.YtegoddghfjfibaaGreatDoor

