/- CuF -/
import Derived.Test.YtegoddghfjfibaaGreatDoorZ23
namespace Go.Proofs.YtegoddghfjfibaaGreatDoor
set_option linter.unusedVariables false
set_option linter.unusedSimpArgs false
open Go.Joins Go.ChangeShapes Go.WideShapes Go.ChangeAt Go.RowKit Go.Deep

def AftL4 (C : Value → Value → World → Prop) (a : Act) (e : Exit) (a' : Act) (w' : World) : Prop :=
  e = .normal ∧ ∃ v16 v17 v18 v19 v20 v21 v22 v15 v23 v24 u7 u8 : Value, a' = ((((((((((((a.put (some 16) v16).put (some 17) v17).put (some 18) v18).put (some 19) v19).put (some 20) v20).put (some 21) v21).put (some 22) v22).put (some 15) v15).put (some 23) v23).put (some 24) v24).put (some 7) u7).put (some 8) u8) ∧ C u7 u8 w'
theorem aftL4 {C : Value → Value → World → Prop} {a a' : Act} {w' : World} {v16 v17 v18 v19 v20 v21 v22 v15 v23 v24 u7 u8 : Value} (hC : C u7 u8 w') (ha : a' = ((((((((((((a.put (some 16) v16).put (some 17) v17).put (some 18) v18).put (some 19) v19).put (some 20) v20).put (some 21) v21).put (some 22) v22).put (some 15) v15).put (some 23) v23).put (some 24) v24).put (some 7) u7).put (some 8) u8)) : AftL4 C a .normal a' w' := ⟨rfl, _, _, _, _, _, _, _, _, _, _, _, _, ha, hC⟩
theorem joinL4 {P : Program} {c : Code} {Q : Exit → Act → World → Prop} {a : Act} {w : World} (C : Value → Value → World → Prop) (h1 : c.wp P (AftL4 C a) a w)
    (h2 : ∀ v16 v17 v18 v19 v20 v21 v22 v15 v23 v24 u7 u8 w', C u7 u8 w' → Q .normal ((((((((((((a.put (some 16) v16).put (some 17) v17).put (some 18) v18).put (some 19) v19).put (some 20) v20).put (some 21) v21).put (some 22) v22).put (some 15) v15).put (some 23) v23).put (some 24) v24).put (some 7) u7).put (some 8) u8) w') : c.wp P Q a w :=
  Code.wp_mono (fun e a' w' ⟨he, _, _, _, _, _, _, _, _, _, _, _, _, ha, hC⟩ => by subst he; subst ha; exact h2 _ _ _ _ _ _ _ _ _ _ _ _ _ hC) h1
theorem box_s6 {W : World} {R : Nat} (h : BoxN W R zer6) (v0 v1 v2 v3 v4 v5 : Value) : BoxN ((((((W.setCell ⟨R, 0, none⟩ v0).setCell ⟨R, 1, none⟩ v1).setCell ⟨R, 2, none⟩ v2).setCell ⟨R, 3, none⟩ v3).setCell ⟨R, 4, none⟩ v4).setCell ⟨R, 5, none⟩ v5) R #[v0, v1, v2, v3, v4, v5] :=
  ((((((h.set 0 v0).set 1 v1).set 2 v2).set 3 v3).set 4 v4).set 5 v5)
theorem box_dr {w w5 : World} {o : Array Value} {t : TypeId} (h : Below (w.alloc (.cells o t)).drew.heap.size (w.alloc (.cells o t)).drew w5) : BoxN w5 w.heap.size o := boxN_below (BoxN.new w o t) (undrewB h)
/-- a box that was made: its cells; all that was there stays -/
def BoxC (w0 : World) (d : Cp) (er : Int) (v e : Value) (w : World) : Prop := ∃ u, v = .pointer (some ⟨u, 0, none⟩) ∧ e = .int .i64 er ∧ BoxN w u (capC d).toArray ∧ w0.heap.size ≤ u ∧ Below w0.heap.size w0 w
set_option maxHeartbeats 4000000 in
theorem loadcap_bad (W : World) (N A M : Nat) (F : Nat → Prop) (s : Mch) (h : McS W N A M F s) (an : Nat) (cb ct cp cy : Int) (cg : Bool) (hc : FitC ⟨cb, ct, (an : Int), cp, cy, cg⟩) (x : Int) (hx : checkP ⟨cb, ct, (an : Int), cp, cy, cg⟩ 32 1 = x) (hz : x ≠ 0) :
    Calls Tryz.prog 182 #[.pointer (some ⟨A, 0, none⟩), .agg #[.int .u64 cb, .int .u64 ct, .int .u64 (an : Int), .int .i64 cp, .int .i64 cy, .bool cg]] W fun e w' => e = .returned (.tuple #[.agg zer6, .int .i64 x]) ∧ Below W.heap.size W w' := by
  have hK := ccheck_any ⟨cb, ct, (an : Int), cp, cy, cg⟩ hc 32 1 (by decide)
  rw [hx] at hK
  unfold capC at hK
  simp only [] at hK
  obtain ⟨b1, b2, b3, b4⟩ := boxes2 W #[.int .u64 cb, .int .u64 ct, .int .u64 (an : Int), .int .i64 cp, .int .i64 cy, .bool cg] zer6 24 24
  obtain ⟨W0, hW0⟩ : ∃ W0, (W.alloc (.cells #[.int .u64 cb, .int .u64 ct, .int .u64 (an : Int), .int .i64 cp, .int .i64 cy, .bool cg] 24)).alloc (.cells zer6 24) = W0 := ⟨_, rfl⟩
  rw [hW0] at b1 b2 b3 b4
  have HW0 := Lib.hid hW0
  have HK := Lib.hid hK
  have HB := Lib.hid b1
  have HX := Lib.hid b2
  have HZ := Lib.hid b3
  have HM := Lib.hid h
  obtain ⟨⟨c0, c1, c2, c3, c4, c5⟩, -⟩ := boxN6 b2
  have q1 : (x == 0) = false := by simpa using hz
  have q2 : (x != 0) = true := by simpa using hz
  clear hz
  clear hW0 hK b1 b2 b3 b4 h hx hc
  go_enter Tryz.func182, Tryz.ntmps182
  go_upto_region 1 with fail
  (try rw [HW0.out])
  clear HW0
  go_wp2_with fail
  refine (HK.out W0).mono ?_; rintro e w1 ⟨rfl, hb⟩
  have HB1 := Lib.hid (HB.out.trans (hb.mono HB.out.size))
  have hx1 := boxN_below HX.out hb
  have hz1 := boxN_below HZ.out hb
  have HX1 := Lib.hid hx1
  have HZ1 := Lib.hid hz1
  obtain ⟨⟨d0, d1, d2, d3, d4, d5⟩, -⟩ := boxN6 hx1
  obtain ⟨⟨i0, i1, i2, i3, i4, i5⟩, j0, j1, j2, j3, j4, j5⟩ := boxN6 hz1
  clear hb hx1 hz1 c0 c1 c2 c3 c4 c5 HK
  go_wp2_with fail
  exact bodyPost_ret (v := .tuple #[.agg zer6, .int .i64 x]) (by simp [results, Tryz.results182, go_sem, *]) rfl ⟨rfl, below_set6 HB1.out (show W.heap.size ≤ W.heap.size + 1 by omega)⟩
set_option maxHeartbeats 4000000 in
theorem loadcap_go (W : World) (N A M : Nat) (F : Nat → Prop) (s : Mch) (h : McS W N A M F s) (an : Nat) (cb ct cp cy : Int) (cg : Bool) (hc : FitC ⟨cb, ct, (an : Int), cp, cy, cg⟩) (hx : checkP ⟨cb, ct, (an : Int), cp, cy, cg⟩ 32 1 = 0) (h8 : bits .and .i64 cp 8 = 0) :
    Calls Tryz.prog 182 #[.pointer (some ⟨A, 0, none⟩), .agg #[.int .u64 cb, .int .u64 ct, .int .u64 (an : Int), .int .i64 cp, .int .i64 cy, .bool cg]] W fun e w' => e = .returned (.tuple #[.agg (capC (clearP (loadC s.m an).1)).toArray, .int .i64 (loadC s.m an).2]) ∧ Below W.heap.size W w' := by
  have hal : an < 18446744073709551616 := by have := hc.a1; simp only [] at this; omega
  have HLC := Lib.hid (fun (w : World) (hb : Below W.heap.size W w) => sloadC_any w N M F s.m (h.own.below hb) an hal)
  obtain ⟨⟨g, er⟩, hg⟩ : ∃ q, loadC s.m an = q := ⟨_, rfl⟩
  rw [hg] at HLC ⊢
  simp only [] at HLC ⊢
  clear hal hg
  have hK := ccheck_any ⟨cb, ct, (an : Int), cp, cy, cg⟩ hc 32 1 (by decide)
  rw [hx] at hK
  unfold capC at hK
  simp only [] at hK
  obtain ⟨b1, b2, b3, b4⟩ := boxes2 W #[.int .u64 cb, .int .u64 ct, .int .u64 (an : Int), .int .i64 cp, .int .i64 cy, .bool cg] zer6 24 24
  obtain ⟨W0, hW0⟩ : ∃ W0, (W.alloc (.cells #[.int .u64 cb, .int .u64 ct, .int .u64 (an : Int), .int .i64 cp, .int .i64 cy, .bool cg] 24)).alloc (.cells zer6 24) = W0 := ⟨_, rfl⟩
  rw [hW0] at b1 b2 b3 b4
  have HW0 := Lib.hid hW0
  have HK := Lib.hid hK
  have HB := Lib.hid b1
  have HX := Lib.hid b2
  have HZ := Lib.hid b3
  have HM := Lib.hid h
  obtain ⟨⟨c0, c1, c2, c3, c4, c5⟩, -⟩ := boxN6 b2
  obtain ⟨gb, gt, ga, gp, gy, gg⟩ := g
  clear hW0 hK b1 b2 b3 b4 h hx hc
  go_enter Tryz.func182, Tryz.ntmps182
  go_upto_region 1 with fail
  (try rw [HW0.out])
  clear HW0
  go_wp2_with fail
  refine (HK.out W0).mono ?_; rintro e w1 ⟨rfl, hb⟩
  have HB1 := Lib.hid (HB.out.trans (hb.mono HB.out.size))
  have hx1 := boxN_below HX.out hb
  have hz1 := boxN_below HZ.out hb
  have HX1 := Lib.hid hx1
  have HZ1 := Lib.hid hz1
  obtain ⟨⟨d0, d1, d2, d3, d4, d5⟩, -⟩ := boxN6 hx1
  obtain ⟨⟨i0, i1, i2, i3, i4, i5⟩, j0, j1, j2, j3, j4, j5⟩ := boxN6 hz1
  clear hb hx1 hz1 c0 c1 c2 c3 c4 c5 HK
  have HSX := Lib.hid (fun (w : World) (hb : Below w1.heap.size w1 w) => (show w.cell? ⟨A, 198, none⟩ = some (.pointer (some ⟨M, 0, none⟩)) ∧ w.cell? ⟨W.heap.size, 2, none⟩ = some (.int .u64 (an : Int)) from by
    obtain ⟨⟨k0, k1, k2, k3, k4, k5⟩, -⟩ := boxN6 (boxN_below HX1.out hb)
    exact ⟨((HM.out.below HB1.out).below hb).mc.mem, k2⟩))
  have HN0 := Lib.hid (Below.refl w1.heap.size w1)
  go_upto_region 4 with fail
  clear d0 d1 d2 d3 d4 d5 i0 i1 i2 i3 i4 i5 j0 j1 j2 j3 j4 j5
  unfold capC at HLC
  simp only [] at HLC
  refine joinL4 (BoxC w1 ⟨gb, gt, ga, gp, gy, gg⟩ er) ?_ ?_
  · go_region_held3 (fun W1 => W1.cell? ⟨A, 198, none⟩ = some (.pointer (some ⟨M, 0, none⟩)) ∧ W1.cell? ⟨W.heap.size, 2, none⟩ = some (.int .u64 (an : Int)))
      (first | exact HSX.out _ (by first | ((repeat (first | with_reducible exact HN0.out | with_reducible exact HN5.out | with_reducible refine Below.drew ?_ | with_reducible refine bAlloc ?_ _ | (with_reducible refine Below.setCell ?_ (by first | exact Nat.le_refl _ | (simp; done) | exact HN5.out.size | omega) _))); done) | fail))
      (first
        | (go_at_call 51; refine (HLC.out _ (by first | exact HB1.out | exact Below.drew HB1.out | exact Below.drew (bAlloc HB1.out _) | exact bAlloc HB1.out _)).mono ?_; rintro e W5 ⟨rfl, hl5⟩; have HL5 := Lib.hid hl5; have HN5 : Hid (Below w1.heap.size w1 W5) := Lib.hid (by first | exact undrewB hl5 | exact hl5 | exact ((Below.drew (bAlloc (Below.refl _ _) _)).trans (hl5.mono (by first | exact Nat.le_succ _ | (rw [show ∀ w : World, w.drew.heap.size = w.heap.size from fun _ => rfl, size_alloc]; omega)))) | exact ((bAlloc (Below.refl _ _) _).trans (hl5.mono (by rw [size_alloc]; omega)))); have n5 := HN5.out.size; first | (have zz := boxN6 (box_dr hl5); obtain ⟨⟨z0, z1, z2, z3, z4, z5⟩, y0, y1, y2, y3, y4, y5⟩ := zz; have HZB := Lib.hid (box_dr hl5)) | skip; clear hl5))
    · exact aftL4 (u7 := .pointer (some ⟨W5.heap.size, 0, none⟩)) (u8 := .int .i64 er) ⟨W5.heap.size, rfl, rfl, BoxN.new W5 _ _, HN5.out.size, HN5.out.trans ((bAlloc (Below.refl _ _) _).mono HN5.out.size)⟩ (by simp only [Act.put, List.setIfInBounds_toArray, List.set_cons_zero, List.set_cons_succ]; rfl)
    · exact aftL4 (u7 := .pointer (some ⟨w1.heap.size, 0, none⟩)) (u8 := .int .i64 er) ⟨w1.heap.size, rfl, rfl, box_s6 HZB.out _ _ _ _ _ _, Nat.le_refl _, below_set6 HN5.out (Nat.le_refl _)⟩ (by simp only [Act.put, List.setIfInBounds_toArray, List.set_cons_zero, List.set_cons_succ]; rfl)
  · rintro v16 v17 v18 v19 v20 v21 v22 v15 v23 v24 u7 u8 w6 ⟨u, rfl, rfl, hu, hu1, hb6⟩
    simp only [Act.put, List.setIfInBounds_toArray, List.set_cons_zero, List.set_cons_succ]
    have HB6 := Lib.hid (HB1.out.trans (hb6.mono HB1.out.size))
    unfold capC at hu
    simp only [] at hu
    have HU := Lib.hid hu
    have hx6 := boxN_below HX1.out hb6
    have hz6 := boxN_below HZ1.out hb6
    have HZ6 := Lib.hid hz6
    obtain ⟨⟨d0, d1, d2, d3, d4, d5⟩, -⟩ := boxN6 hx6
    obtain ⟨⟨m0, m1, m2, m3, m4, m5⟩, k0, k1, k2, k3, k4, k5⟩ := boxN6 hu
    obtain ⟨⟨i0, i1, i2, i3, i4, i5⟩, j0, j1, j2, j3, j4, j5⟩ := boxN6 hz6
    have hlt := HZ1.out.lt
    have n1 : ¬ u = W.heap.size + 1 := by omega
    have n2 : ¬ W.heap.size + 1 = u := by omega
    have HUW : Hid (W.heap.size ≤ u) := Lib.hid (by omega)
    clear hu hx6 hz6 hb6 hlt hu1 HSX HN0
    have HCL := Lib.hid (fun w => cclear_any ⟨gb, gt, ga, gp, gy, gg⟩ w)
    unfold clearP capC at HCL
    simp only [] at HCL
    go_wp2_with fail
    refine (HCL.out w6).mono ?_; rintro e w7 ⟨rfl, hb7⟩
    have HB7 := Lib.hid (HB6.out.trans (hb7.mono HB6.out.size))
    have hu7 := boxN_below HU.out hb7
    have hz7 := boxN_below HZ6.out hb7
    clear d0 d1 d2 d3 d4 d5 m0 m1 m2 m3 m4 m5 k0 k1 k2 k3 k4 k5 i0 i1 i2 i3 i4 i5 j0 j1 j2 j3 j4 j5
    obtain ⟨⟨m0, m1, m2, m3, m4, m5⟩, k0, k1, k2, k3, k4, k5⟩ := boxN6 hu7
    obtain ⟨⟨i0, i1, i2, i3, i4, i5⟩, j0, j1, j2, j3, j4, j5⟩ := boxN6 hz7
    clear hu7 hz7 hb7 HCL
    go_wp2_with fail
    refine bodyPost_ret (v := .tuple #[.agg #[.int .u64 gb, .int .u64 gt, .int .u64 ga, .int .i64 gp, .int .i64 gy, .bool false], .int .i64 er]) (by simp [results, Tryz.results182, go_sem, *]) rfl ⟨rfl, ?_⟩
    exact below_set6 (below_set6 HB7.out HUW.out) (show W.heap.size ≤ W.heap.size + 1 by omega)
set_option maxHeartbeats 4000000 in
theorem loadcap_take (W : World) (N A M : Nat) (F : Nat → Prop) (s : Mch) (h : McS W N A M F s) (an : Nat) (cb ct cp cy : Int) (cg : Bool) (hc : FitC ⟨cb, ct, (an : Int), cp, cy, cg⟩) (hx : checkP ⟨cb, ct, (an : Int), cp, cy, cg⟩ 32 1 = 0) (h8 : bits .and .i64 cp 8 ≠ 0) :
    Calls Tryz.prog 182 #[.pointer (some ⟨A, 0, none⟩), .agg #[.int .u64 cb, .int .u64 ct, .int .u64 (an : Int), .int .i64 cp, .int .i64 cy, .bool cg]] W fun e w' => e = .returned (.tuple #[.agg (capC (loadC s.m an).1).toArray, .int .i64 (loadC s.m an).2]) ∧ Below W.heap.size W w' := by
  have hal : an < 18446744073709551616 := by have := hc.a1; simp only [] at this; omega
  have HLC := Lib.hid (fun (w : World) (hb : Below W.heap.size W w) => sloadC_any w N M F s.m (h.own.below hb) an hal)
  obtain ⟨⟨g, er⟩, hg⟩ : ∃ q, loadC s.m an = q := ⟨_, rfl⟩
  rw [hg] at HLC ⊢
  simp only [] at HLC ⊢
  clear hal hg
  have hK := ccheck_any ⟨cb, ct, (an : Int), cp, cy, cg⟩ hc 32 1 (by decide)
  rw [hx] at hK
  unfold capC at hK
  simp only [] at hK
  obtain ⟨b1, b2, b3, b4⟩ := boxes2 W #[.int .u64 cb, .int .u64 ct, .int .u64 (an : Int), .int .i64 cp, .int .i64 cy, .bool cg] zer6 24 24
  obtain ⟨W0, hW0⟩ : ∃ W0, (W.alloc (.cells #[.int .u64 cb, .int .u64 ct, .int .u64 (an : Int), .int .i64 cp, .int .i64 cy, .bool cg] 24)).alloc (.cells zer6 24) = W0 := ⟨_, rfl⟩
  rw [hW0] at b1 b2 b3 b4
  have HW0 := Lib.hid hW0
  have HK := Lib.hid hK
  have HB := Lib.hid b1
  have HX := Lib.hid b2
  have HZ := Lib.hid b3
  have HM := Lib.hid h
  obtain ⟨⟨c0, c1, c2, c3, c4, c5⟩, -⟩ := boxN6 b2
  obtain ⟨gb, gt, ga, gp, gy, gg⟩ := g
  clear hW0 hK b1 b2 b3 b4 h hx hc
  go_enter Tryz.func182, Tryz.ntmps182
  go_upto_region 1 with fail
  (try rw [HW0.out])
  clear HW0
  go_wp2_with fail
  refine (HK.out W0).mono ?_; rintro e w1 ⟨rfl, hb⟩
  have HB1 := Lib.hid (HB.out.trans (hb.mono HB.out.size))
  have hx1 := boxN_below HX.out hb
  have hz1 := boxN_below HZ.out hb
  have HX1 := Lib.hid hx1
  have HZ1 := Lib.hid hz1
  obtain ⟨⟨d0, d1, d2, d3, d4, d5⟩, -⟩ := boxN6 hx1
  obtain ⟨⟨i0, i1, i2, i3, i4, i5⟩, j0, j1, j2, j3, j4, j5⟩ := boxN6 hz1
  clear hb hx1 hz1 c0 c1 c2 c3 c4 c5 HK
  have HSX := Lib.hid (fun (w : World) (hb : Below w1.heap.size w1 w) => (show w.cell? ⟨A, 198, none⟩ = some (.pointer (some ⟨M, 0, none⟩)) ∧ w.cell? ⟨W.heap.size, 2, none⟩ = some (.int .u64 (an : Int)) from by
    obtain ⟨⟨k0, k1, k2, k3, k4, k5⟩, -⟩ := boxN6 (boxN_below HX1.out hb)
    exact ⟨((HM.out.below HB1.out).below hb).mc.mem, k2⟩))
  have HN0 := Lib.hid (Below.refl w1.heap.size w1)
  go_upto_region 4 with fail
  clear d0 d1 d2 d3 d4 d5 i0 i1 i2 i3 i4 i5 j0 j1 j2 j3 j4 j5
  unfold capC at HLC
  simp only [] at HLC
  refine joinL4 (BoxC w1 ⟨gb, gt, ga, gp, gy, gg⟩ er) ?_ ?_
  · go_region_held3 (fun W1 => W1.cell? ⟨A, 198, none⟩ = some (.pointer (some ⟨M, 0, none⟩)) ∧ W1.cell? ⟨W.heap.size, 2, none⟩ = some (.int .u64 (an : Int)))
      (first | exact HSX.out _ (by first | ((repeat (first | with_reducible exact HN0.out | with_reducible exact HN5.out | with_reducible refine Below.drew ?_ | with_reducible refine bAlloc ?_ _ | (with_reducible refine Below.setCell ?_ (by first | exact Nat.le_refl _ | (simp; done) | exact HN5.out.size | omega) _))); done) | fail))
      (first
        | (go_at_call 51; refine (HLC.out _ (by first | exact HB1.out | exact Below.drew HB1.out | exact Below.drew (bAlloc HB1.out _) | exact bAlloc HB1.out _)).mono ?_; rintro e W5 ⟨rfl, hl5⟩; have HL5 := Lib.hid hl5; have HN5 : Hid (Below w1.heap.size w1 W5) := Lib.hid (by first | exact undrewB hl5 | exact hl5 | exact ((Below.drew (bAlloc (Below.refl _ _) _)).trans (hl5.mono (by first | exact Nat.le_succ _ | (rw [show ∀ w : World, w.drew.heap.size = w.heap.size from fun _ => rfl, size_alloc]; omega)))) | exact ((bAlloc (Below.refl _ _) _).trans (hl5.mono (by rw [size_alloc]; omega)))); have n5 := HN5.out.size; first | (have zz := boxN6 (box_dr hl5); obtain ⟨⟨z0, z1, z2, z3, z4, z5⟩, y0, y1, y2, y3, y4, y5⟩ := zz; have HZB := Lib.hid (box_dr hl5)) | skip; clear hl5))
    · exact aftL4 (u7 := .pointer (some ⟨W5.heap.size, 0, none⟩)) (u8 := .int .i64 er) ⟨W5.heap.size, rfl, rfl, BoxN.new W5 _ _, HN5.out.size, HN5.out.trans ((bAlloc (Below.refl _ _) _).mono HN5.out.size)⟩ (by simp only [Act.put, List.setIfInBounds_toArray, List.set_cons_zero, List.set_cons_succ]; rfl)
    · exact aftL4 (u7 := .pointer (some ⟨w1.heap.size, 0, none⟩)) (u8 := .int .i64 er) ⟨w1.heap.size, rfl, rfl, box_s6 HZB.out _ _ _ _ _ _, Nat.le_refl _, below_set6 HN5.out (Nat.le_refl _)⟩ (by simp only [Act.put, List.setIfInBounds_toArray, List.set_cons_zero, List.set_cons_succ]; rfl)
  · rintro v16 v17 v18 v19 v20 v21 v22 v15 v23 v24 u7 u8 w6 ⟨u, rfl, rfl, hu, hu1, hb6⟩
    simp only [Act.put, List.setIfInBounds_toArray, List.set_cons_zero, List.set_cons_succ]
    have HB6 := Lib.hid (HB1.out.trans (hb6.mono HB1.out.size))
    unfold capC at hu
    simp only [] at hu
    have HU := Lib.hid hu
    have hx6 := boxN_below HX1.out hb6
    have hz6 := boxN_below HZ1.out hb6
    have HZ6 := Lib.hid hz6
    obtain ⟨⟨d0, d1, d2, d3, d4, d5⟩, -⟩ := boxN6 hx6
    obtain ⟨⟨m0, m1, m2, m3, m4, m5⟩, k0, k1, k2, k3, k4, k5⟩ := boxN6 hu
    obtain ⟨⟨i0, i1, i2, i3, i4, i5⟩, j0, j1, j2, j3, j4, j5⟩ := boxN6 hz6
    have hlt := HZ1.out.lt
    have n1 : ¬ u = W.heap.size + 1 := by omega
    have n2 : ¬ W.heap.size + 1 = u := by omega
    have HUW : Hid (W.heap.size ≤ u) := Lib.hid (by omega)
    clear hu hx6 hz6 hb6 hlt hu1 HSX HN0
    have q8 : (bits .and .i64 cp 8 == 0) = false := by simpa using h8
    clear h8
    go_wp2_with fail
    refine bodyPost_ret (v := .tuple #[.agg #[.int .u64 gb, .int .u64 gt, .int .u64 ga, .int .i64 gp, .int .i64 gy, .bool gg], .int .i64 er]) (by simp [results, Tryz.results182, go_sem, *]) rfl ⟨rfl, ?_⟩
    exact below_set6 HB6.out (show W.heap.size ≤ W.heap.size + 1 by omega)
theorem loadcap_any (W : World) (N A M : Nat) (F : Nat → Prop) (s : Mch) (h : McS W N A M F s) (c : Cp) (hc : FitC c) :
    Calls Tryz.prog 182 #[.pointer (some ⟨A, 0, none⟩), .agg (capC c).toArray] W fun e w' => ∃ d : Cp, e = .returned (.tuple #[.agg (capC d).toArray, .int .i64 (loadCapP s.m c).2]) ∧ ((loadCapP s.m c).2 = 0 → d = (loadCapP s.m c).1) ∧ Below W.heap.size W w' := by
  obtain ⟨cb, ct, ca, cp, cy, cg⟩ := c
  obtain ⟨an, rfl⟩ : ∃ an : Nat, ca = (an : Int) := ⟨ca.toNat, by have := hc.a0; simp only [] at this; omega⟩
  have e0 : ((an : Int)).toNat = an := by omega
  unfold loadCapP
  simp only [e0]
  by_cases hx : checkP ⟨cb, ct, (an : Int), cp, cy, cg⟩ 32 1 = 0
  · rw [if_neg (by simpa using hx)]
    by_cases h8 : bits .and .i64 cp 8 = 0
    · exact (loadcap_go W N A M F s h an cb ct cp cy cg hc hx h8).mono fun e w' q => ⟨_, q.1, fun _ => by simp only []; rw [if_pos h8], q.2⟩
    · exact (loadcap_take W N A M F s h an cb ct cp cy cg hc hx h8).mono fun e w' q => ⟨_, q.1, fun _ => by simp only []; rw [if_neg h8], q.2⟩
  · rw [if_pos (by simpa using hx)]
    exact (loadcap_bad W N A M F s h an cb ct cp cy cg hc _ rfl hx).mono fun e w' q => ⟨⟨0, 0, 0, 0, 0, false⟩, q.1, fun e0 => absurd e0 hx, q.2⟩
end Go.Proofs.YtegoddghfjfibaaGreatDoor

