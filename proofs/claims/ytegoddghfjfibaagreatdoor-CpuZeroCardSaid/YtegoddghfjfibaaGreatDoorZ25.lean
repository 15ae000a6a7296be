/- CuG CuH -/
import Derived.Test.YtegoddghfjfibaaGreatDoorZ24
namespace Go.Proofs.YtegoddghfjfibaaGreatDoor
set_option linter.unusedVariables false
set_option linter.unusedSimpArgs false
open Go.Joins Go.ChangeShapes Go.WideShapes Go.ChangeAt Go.RowKit Go.Deep

theorem width_in (s : List UInt8) : 0 ≤ (Al.widthZ s).1 ∧ (Al.widthZ s).1 ≤ 8 := by
  unfold Al.widthZ
  repeat' split
  all_goals exact ⟨by decide, by decide⟩
theorem load_in (m : Mm) (a n : Int) : 0 ≤ (loadF m a n).1 := by
  unfold loadF
  split
  · exact Int.natCast_nonneg _
  · exact Int.le_refl _
set_option maxHeartbeats 4000000 in
theorem load_cap (W : World) (N A M : Nat) (F : Nat → Prop) (s : Mch) (h : McS W N A M F s) (nt : Is.NT W) (op : Nat) (an : Nat) (cb ct cp cy : Int) (cg : Bool) (hc : FitC ⟨cb, ct, (an : Int), cp, cy, cg⟩) (n : Int) (sg : Bool) (hw : Al.widthZ (opN (op : Int)) = (n, sg, false)) :
    Calls Tryz.prog 150 #[.pointer (some ⟨A, 0, none⟩), .int .i64 (op : Int), .agg #[.int .u64 cb, .int .u64 ct, .int .u64 (an : Int), .int .i64 cp, .int .i64 cy, .bool cg]] W fun e w' => ∃ d : Cp, e = .returned (.tuple #[.agg (capC d).toArray, .int .i64 (loadCapP s.m ⟨cb, ct, (an : Int), cp, cy, cg⟩).2]) ∧ ((loadCapP s.m ⟨cb, ct, (an : Int), cp, cy, cg⟩).2 = 0 → d = (loadCapP s.m ⟨cb, ct, (an : Int), cp, cy, cg⟩).1) ∧ Below W.heap.size W w' := by
  obtain ⟨b1, b2, b3, b4⟩ := boxes2 W #[.int .u64 cb, .int .u64 ct, .int .u64 (an : Int), .int .i64 cp, .int .i64 cy, .bool cg] zer6 24 24
  obtain ⟨W0, hW0⟩ : ∃ W0, (W.alloc (.cells #[.int .u64 cb, .int .u64 ct, .int .u64 (an : Int), .int .i64 cp, .int .i64 cy, .bool cg] 24)).alloc (.cells zer6 24) = W0 := ⟨_, rfl⟩
  rw [hW0] at b1 b2 b3 b4
  have hWD := Al.width_any (op : Int) W0 (nt.on b1)
  rw [hw] at hWD
  simp only [] at hWD
  have HWD := Lib.hid hWD
  have HW0 := Lib.hid hW0
  have HB := Lib.hid b1
  have HX := Lib.hid b2
  have HZ := Lib.hid b3
  have HM := Lib.hid h
  obtain ⟨⟨c0, c1, c2, c3, c4, c5⟩, -⟩ := boxN6 b2
  obtain ⟨⟨i0, i1, i2, i3, i4, i5⟩, j0, j1, j2, j3, j4, j5⟩ := boxN6 b3
  have HLC := Lib.hid (loadcap_any W0 N A M F s (h.below b1) ⟨cb, ct, (an : Int), cp, cy, cg⟩ hc)
  obtain ⟨⟨g, er⟩, hg⟩ : ∃ q, loadCapP s.m ⟨cb, ct, (an : Int), cp, cy, cg⟩ = q := ⟨_, rfl⟩
  rw [hg] at HLC ⊢
  simp only [] at HLC ⊢
  unfold capC at HLC
  simp only [] at HLC
  clear hg hc
  clear hW0 hWD b1 b2 b3 b4 h hw nt
  go_enter Tryz.func150, Tryz.ntmps150
  go_upto_region 1 with fail
  (try rw [HW0.out])
  clear HW0
  go_wp2_with fail
  refine HWD.out.mono ?_; rintro e w1 ⟨rfl, rfl⟩
  clear HWD
  go_wp2_with fail
  refine HLC.out.mono ?_; rintro e w2 ⟨⟨db, dt, da, dp, dy, dg⟩, rfl, hd, hb⟩
  have HD := Lib.hid hd
  have HB2 := Lib.hid (HB.out.trans (hb.mono HB.out.size))
  have hz := boxN_below HZ.out hb
  clear hd hb HLC c0 c1 c2 c3 c4 c5 i0 i1 i2 i3 i4 i5 j0 j1 j2 j3 j4 j5
  obtain ⟨⟨i0, i1, i2, i3, i4, i5⟩, j0, j1, j2, j3, j4, j5⟩ := boxN6 hz
  clear hz
  simp only []
  go_wp2_with fail
  exact bodyPost_ret (v := .tuple #[.agg #[.int .u64 db, .int .u64 dt, .int .u64 da, .int .i64 dp, .int .i64 dy, .bool dg], .int .i64 er]) (by simp [results, Tryz.results150, go_sem, *]) rfl ⟨⟨db, dt, da, dp, dy, dg⟩, rfl, HD.out, below_set6 HB2.out (show W.heap.size ≤ W.heap.size + 1 by omega)⟩
set_option maxHeartbeats 4000000 in
theorem load_bad (W : World) (N A M : Nat) (F : Nat → Prop) (s : Mch) (h : McS W N A M F s) (nt : Is.NT W) (op : Nat) (an : Nat) (cb ct cp cy : Int) (cg : Bool) (hc : FitC ⟨cb, ct, (an : Int), cp, cy, cg⟩) (n : Int) (sg : Bool) (hw : Al.widthZ (opN (op : Int)) = (n, sg, true)) (x : Int) (hx : checkP ⟨cb, ct, (an : Int), cp, cy, cg⟩ n 1 = x) (hz : x ≠ 0) :
    Calls Tryz.prog 150 #[.pointer (some ⟨A, 0, none⟩), .int .i64 (op : Int), .agg #[.int .u64 cb, .int .u64 ct, .int .u64 (an : Int), .int .i64 cp, .int .i64 cy, .bool cg]] W fun e w' => e = .returned (.tuple #[.agg zer6, .int .i64 x]) ∧ Below W.heap.size W w' := by
  have hn := width_in (opN (op : Int))
  rw [hw] at hn
  simp only [] at hn
  have hK := ccheck_any ⟨cb, ct, (an : Int), cp, cy, cg⟩ hc n 1 hn.1
  rw [hx] at hK
  unfold capC at hK
  simp only [] at hK
  have HK := Lib.hid hK
  have wn : IntKind.u64.wrap n = n := by rw [IntKind.wrap_u64]; omega
  clear hK
  obtain ⟨b1, b2, b3, b4⟩ := boxes2 W #[.int .u64 cb, .int .u64 ct, .int .u64 (an : Int), .int .i64 cp, .int .i64 cy, .bool cg] zer6 24 24
  obtain ⟨W0, hW0⟩ : ∃ W0, (W.alloc (.cells #[.int .u64 cb, .int .u64 ct, .int .u64 (an : Int), .int .i64 cp, .int .i64 cy, .bool cg] 24)).alloc (.cells zer6 24) = W0 := ⟨_, rfl⟩
  rw [hW0] at b1 b2 b3 b4
  have hWD := Al.width_any (op : Int) W0 (nt.on b1)
  rw [hw] at hWD
  simp only [] at hWD
  have HWD := Lib.hid hWD
  have HW0 := Lib.hid hW0
  have HB := Lib.hid b1
  have HX := Lib.hid b2
  have HZ := Lib.hid b3
  have HM := Lib.hid h
  obtain ⟨⟨c0, c1, c2, c3, c4, c5⟩, -⟩ := boxN6 b2
  obtain ⟨⟨i0, i1, i2, i3, i4, i5⟩, j0, j1, j2, j3, j4, j5⟩ := boxN6 b3
  have q1 : (x == 0) = false := by simpa using hz
  have q2 : (x != 0) = true := by simpa using hz
  clear hz hx hc hn
  clear hW0 hWD b1 b2 b3 b4 h hw nt
  go_enter Tryz.func150, Tryz.ntmps150
  go_upto_region 1 with fail
  (try rw [HW0.out])
  clear HW0
  go_wp2_with fail
  refine HWD.out.mono ?_; rintro e w1 ⟨rfl, rfl⟩
  clear HWD
  go_wp2_with fail
  refine (HK.out W0).mono ?_; rintro e w1 ⟨rfl, hb⟩
  have HB1 := Lib.hid (HB.out.trans (hb.mono HB.out.size))
  have hx1 := boxN_below HX.out hb
  have hz1 := boxN_below HZ.out hb
  have HX1 := Lib.hid hx1
  have HZ1 := Lib.hid hz1
  clear c0 c1 c2 c3 c4 c5 i0 i1 i2 i3 i4 i5 j0 j1 j2 j3 j4 j5
  obtain ⟨⟨d0, d1, d2, d3, d4, d5⟩, -⟩ := boxN6 hx1
  obtain ⟨⟨i0, i1, i2, i3, i4, i5⟩, j0, j1, j2, j3, j4, j5⟩ := boxN6 hz1
  clear hb hx1 hz1 HK
  go_wp2_with fail
  exact bodyPost_ret (v := .tuple #[.agg zer6, .int .i64 x]) (by simp [results, Tryz.results150, go_sem, *]) rfl ⟨rfl, below_set6 HB1.out (show W.heap.size ≤ W.heap.size + 1 by omega)⟩
set_option maxHeartbeats 4000000 in
theorem load_plain (W : World) (N A M : Nat) (F : Nat → Prop) (s : Mch) (h : McS W N A M F s) (nt : Is.NT W) (op : Nat) (an : Nat) (cb ct cp cy : Int) (cg : Bool) (hc : FitC ⟨cb, ct, (an : Int), cp, cy, cg⟩) (n : Int) (hw : Al.widthZ (opN (op : Int)) = (n, false, true)) (hx : checkP ⟨cb, ct, (an : Int), cp, cy, cg⟩ n 1 = 0) :
    Calls Tryz.prog 150 #[.pointer (some ⟨A, 0, none⟩), .int .i64 (op : Int), .agg #[.int .u64 cb, .int .u64 ct, .int .u64 (an : Int), .int .i64 cp, .int .i64 cy, .bool cg]] W fun e w' => e = .returned (.tuple #[.agg (capC (intP (loadF s.m an n).1)).toArray, .int .i64 (loadF s.m an n).2]) ∧ Below W.heap.size W w' := by
  have hn := width_in (opN (op : Int))
  rw [hw] at hn
  simp only [] at hn
  have hK := ccheck_any ⟨cb, ct, (an : Int), cp, cy, cg⟩ hc n 1 hn.1
  rw [hx] at hK
  unfold capC at hK
  simp only [] at hK
  have HK := Lib.hid hK
  have wn : IntKind.u64.wrap n = n := by rw [IntKind.wrap_u64]; omega
  clear hK
  obtain ⟨b1, b2, b3, b4⟩ := boxes2 W #[.int .u64 cb, .int .u64 ct, .int .u64 (an : Int), .int .i64 cp, .int .i64 cy, .bool cg] zer6 24 24
  obtain ⟨W0, hW0⟩ : ∃ W0, (W.alloc (.cells #[.int .u64 cb, .int .u64 ct, .int .u64 (an : Int), .int .i64 cp, .int .i64 cy, .bool cg] 24)).alloc (.cells zer6 24) = W0 := ⟨_, rfl⟩
  rw [hW0] at b1 b2 b3 b4
  have hWD := Al.width_any (op : Int) W0 (nt.on b1)
  rw [hw] at hWD
  simp only [] at hWD
  have HWD := Lib.hid hWD
  have HW0 := Lib.hid hW0
  have HB := Lib.hid b1
  have HX := Lib.hid b2
  have HZ := Lib.hid b3
  have HM := Lib.hid h
  obtain ⟨⟨c0, c1, c2, c3, c4, c5⟩, -⟩ := boxN6 b2
  obtain ⟨⟨i0, i1, i2, i3, i4, i5⟩, j0, j1, j2, j3, j4, j5⟩ := boxN6 b3
  have hal : an < 18446744073709551616 := by have := hc.a1; simp only [] at this; omega
  have HLC := Lib.hid (fun (w : World) (hb : Below W.heap.size W w) => sload_any w N M F s.m (h.own.below hb) an n hal)
  have hv0 := load_in s.m an n
  obtain ⟨⟨g, er⟩, hg⟩ : ∃ q, loadF s.m an n = q := ⟨_, rfl⟩
  rw [hg] at HLC hv0 ⊢
  simp only [] at HLC hv0 ⊢
  have w8 : IntKind.i64.wrap (8 * n) = 8 * n := by rw [IntKind.wrap_i64]; omega
  have HSG := Lib.hid (fun w => sign_any g (8 * n) w hv0)
  have HCI := Lib.hid (fun w => cint_any g w)
  unfold intP capC at HCI ⊢
  simp only [] at HCI ⊢
  obtain ⟨gg, hgg⟩ : ∃ gg, g = gg := ⟨_, rfl⟩
  subst hgg
  clear hal hg hx hc hn hv0
  clear hW0 hWD b1 b2 b3 b4 h hw nt
  go_enter Tryz.func150, Tryz.ntmps150
  go_upto_region 1 with fail
  (try rw [HW0.out])
  clear HW0
  go_wp2_with fail
  refine HWD.out.mono ?_; rintro e w1 ⟨rfl, rfl⟩
  clear HWD
  go_wp2_with fail
  refine (HK.out W0).mono ?_; rintro e w1 ⟨rfl, hb⟩
  have HB1 := Lib.hid (HB.out.trans (hb.mono HB.out.size))
  have hx1 := boxN_below HX.out hb
  have hz1 := boxN_below HZ.out hb
  have HX1 := Lib.hid hx1
  have HZ1 := Lib.hid hz1
  clear c0 c1 c2 c3 c4 c5 i0 i1 i2 i3 i4 i5 j0 j1 j2 j3 j4 j5
  obtain ⟨⟨d0, d1, d2, d3, d4, d5⟩, -⟩ := boxN6 hx1
  obtain ⟨⟨i0, i1, i2, i3, i4, i5⟩, j0, j1, j2, j3, j4, j5⟩ := boxN6 hz1
  clear hb hx1 hz1 HK
  have HSX := Lib.hid (fun (w : World) (hb : Below w1.heap.size w1 w) => (show w.cell? ⟨A, 198, none⟩ = some (.pointer (some ⟨M, 0, none⟩)) ∧ w.cell? ⟨W.heap.size, 2, none⟩ = some (.int .u64 (an : Int)) from by
    obtain ⟨⟨k0, k1, k2, k3, k4, k5⟩, -⟩ := boxN6 (boxN_below HX1.out hb)
    exact ⟨((HM.out.below HB1.out).below hb).mc.mem, k2⟩))
  have HN0 := Lib.hid (Below.refl w1.heap.size w1)
  go_upto_region 7 with fail
  clear d0 d1 d2 d3 d4 d5 i0 i1 i2 i3 i4 i5 j0 j1 j2 j3 j4 j5
  go_region_held3 (fun W1 => W1.cell? ⟨A, 198, none⟩ = some (.pointer (some ⟨M, 0, none⟩)) ∧ W1.cell? ⟨W.heap.size, 2, none⟩ = some (.int .u64 (an : Int)))
    (first | exact HSX.out _ (by first | ((repeat (first | with_reducible exact HN0.out | with_reducible refine Below.drew ?_)); done) | fail))
    (first
      | (go_at_call 86; refine (HLC.out _ (by first | exact HB1.out | exact Below.drew HB1.out)).mono ?_; rintro e W5 ⟨rfl, rfl⟩))
  have HBd : Hid (Below W.heap.size W w1.drew) := Lib.hid (Below.drew HB1.out)
  have hz1 : BoxN w1.drew (W.heap.size + 1) zer6 := HZ1.out
  have HZd := Lib.hid hz1
  clear hz1
  go_wp2_with fail
  refine (HCI.out _).mono ?_; rintro e w5 ⟨rfl, hb5⟩
  have HB5 := Lib.hid (HBd.out.trans (hb5.mono HBd.out.size))
  obtain ⟨⟨i0, i1, i2, i3, i4, i5⟩, j0, j1, j2, j3, j4, j5⟩ := boxN6 (boxN_below HZd.out hb5)
  clear hb5
  go_wp2_with fail
  exact bodyPost_ret (v := .tuple #[.agg #[.int .u64 0, .int .u64 0, .int .u64 g, .int .i64 0, .int .i64 (-1), .bool false], .int .i64 er]) (by simp [results, Tryz.results150, go_sem, *]) rfl ⟨rfl, below_set6 HB5.out (show W.heap.size ≤ W.heap.size + 1 by omega)⟩
set_option maxHeartbeats 4000000 in
theorem load_sign (W : World) (N A M : Nat) (F : Nat → Prop) (s : Mch) (h : McS W N A M F s) (nt : Is.NT W) (op : Nat) (an : Nat) (cb ct cp cy : Int) (cg : Bool) (hc : FitC ⟨cb, ct, (an : Int), cp, cy, cg⟩) (n : Int) (hw : Al.widthZ (opN (op : Int)) = (n, true, true)) (hx : checkP ⟨cb, ct, (an : Int), cp, cy, cg⟩ n 1 = 0) :
    Calls Tryz.prog 150 #[.pointer (some ⟨A, 0, none⟩), .int .i64 (op : Int), .agg #[.int .u64 cb, .int .u64 ct, .int .u64 (an : Int), .int .i64 cp, .int .i64 cy, .bool cg]] W fun e w' => e = .returned (.tuple #[.agg (capC (intP (signZ (loadF s.m an n).1 (8 * n)))).toArray, .int .i64 (loadF s.m an n).2]) ∧ Below W.heap.size W w' := by
  have hn := width_in (opN (op : Int))
  rw [hw] at hn
  simp only [] at hn
  have hK := ccheck_any ⟨cb, ct, (an : Int), cp, cy, cg⟩ hc n 1 hn.1
  rw [hx] at hK
  unfold capC at hK
  simp only [] at hK
  have HK := Lib.hid hK
  have wn : IntKind.u64.wrap n = n := by rw [IntKind.wrap_u64]; omega
  clear hK
  obtain ⟨b1, b2, b3, b4⟩ := boxes2 W #[.int .u64 cb, .int .u64 ct, .int .u64 (an : Int), .int .i64 cp, .int .i64 cy, .bool cg] zer6 24 24
  obtain ⟨W0, hW0⟩ : ∃ W0, (W.alloc (.cells #[.int .u64 cb, .int .u64 ct, .int .u64 (an : Int), .int .i64 cp, .int .i64 cy, .bool cg] 24)).alloc (.cells zer6 24) = W0 := ⟨_, rfl⟩
  rw [hW0] at b1 b2 b3 b4
  have hWD := Al.width_any (op : Int) W0 (nt.on b1)
  rw [hw] at hWD
  simp only [] at hWD
  have HWD := Lib.hid hWD
  have HW0 := Lib.hid hW0
  have HB := Lib.hid b1
  have HX := Lib.hid b2
  have HZ := Lib.hid b3
  have HM := Lib.hid h
  obtain ⟨⟨c0, c1, c2, c3, c4, c5⟩, -⟩ := boxN6 b2
  obtain ⟨⟨i0, i1, i2, i3, i4, i5⟩, j0, j1, j2, j3, j4, j5⟩ := boxN6 b3
  have hal : an < 18446744073709551616 := by have := hc.a1; simp only [] at this; omega
  have HLC := Lib.hid (fun (w : World) (hb : Below W.heap.size W w) => sload_any w N M F s.m (h.own.below hb) an n hal)
  have hv0 := load_in s.m an n
  obtain ⟨⟨g, er⟩, hg⟩ : ∃ q, loadF s.m an n = q := ⟨_, rfl⟩
  rw [hg] at HLC hv0 ⊢
  simp only [] at HLC hv0 ⊢
  have w8 : IntKind.i64.wrap (8 * n) = 8 * n := by rw [IntKind.wrap_i64]; omega
  have HSG := Lib.hid (fun w => sign_any g (8 * n) w hv0)
  have HCI := Lib.hid (fun w => cint_any (signZ g (8 * n)) w)
  unfold intP capC at HCI ⊢
  simp only [] at HCI ⊢
  obtain ⟨gg, hgg⟩ : ∃ gg, (signZ g (8 * n)) = gg := ⟨_, rfl⟩
  rw [hgg] at HSG HCI ⊢
  clear hal hg hx hc hn hv0 hgg
  clear hW0 hWD b1 b2 b3 b4 h hw nt
  go_enter Tryz.func150, Tryz.ntmps150
  go_upto_region 1 with fail
  (try rw [HW0.out])
  clear HW0
  go_wp2_with fail
  refine HWD.out.mono ?_; rintro e w1 ⟨rfl, rfl⟩
  clear HWD
  go_wp2_with fail
  refine (HK.out W0).mono ?_; rintro e w1 ⟨rfl, hb⟩
  have HB1 := Lib.hid (HB.out.trans (hb.mono HB.out.size))
  have hx1 := boxN_below HX.out hb
  have hz1 := boxN_below HZ.out hb
  have HX1 := Lib.hid hx1
  have HZ1 := Lib.hid hz1
  clear c0 c1 c2 c3 c4 c5 i0 i1 i2 i3 i4 i5 j0 j1 j2 j3 j4 j5
  obtain ⟨⟨d0, d1, d2, d3, d4, d5⟩, -⟩ := boxN6 hx1
  obtain ⟨⟨i0, i1, i2, i3, i4, i5⟩, j0, j1, j2, j3, j4, j5⟩ := boxN6 hz1
  clear hb hx1 hz1 HK
  have HSX := Lib.hid (fun (w : World) (hb : Below w1.heap.size w1 w) => (show w.cell? ⟨A, 198, none⟩ = some (.pointer (some ⟨M, 0, none⟩)) ∧ w.cell? ⟨W.heap.size, 2, none⟩ = some (.int .u64 (an : Int)) from by
    obtain ⟨⟨k0, k1, k2, k3, k4, k5⟩, -⟩ := boxN6 (boxN_below HX1.out hb)
    exact ⟨((HM.out.below HB1.out).below hb).mc.mem, k2⟩))
  have HN0 := Lib.hid (Below.refl w1.heap.size w1)
  go_upto_region 7 with fail
  clear d0 d1 d2 d3 d4 d5 i0 i1 i2 i3 i4 i5 j0 j1 j2 j3 j4 j5
  go_region_held3 (fun W1 => W1.cell? ⟨A, 198, none⟩ = some (.pointer (some ⟨M, 0, none⟩)) ∧ W1.cell? ⟨W.heap.size, 2, none⟩ = some (.int .u64 (an : Int)))
    (first | exact HSX.out _ (by first | ((repeat (first | with_reducible exact HN0.out | with_reducible refine Below.drew ?_)); done) | fail))
    (first
      | (go_at_call 86; refine (HLC.out _ (by first | exact HB1.out | exact Below.drew HB1.out)).mono ?_; rintro e W5 ⟨rfl, rfl⟩))
  have HBd : Hid (Below W.heap.size W w1.drew) := Lib.hid (Below.drew HB1.out)
  have hz1 : BoxN w1.drew (W.heap.size + 1) zer6 := HZ1.out
  have HZd := Lib.hid hz1
  clear hz1
  go_wp2_with fail
  refine (HSG.out _).mono ?_; rintro e w4 ⟨rfl, rfl⟩
  go_wp2_with fail
  refine (HCI.out _).mono ?_; rintro e w5 ⟨rfl, hb5⟩
  have HB5 := Lib.hid (HBd.out.trans (hb5.mono HBd.out.size))
  obtain ⟨⟨i0, i1, i2, i3, i4, i5⟩, j0, j1, j2, j3, j4, j5⟩ := boxN6 (boxN_below HZd.out hb5)
  clear hb5
  go_wp2_with fail
  exact bodyPost_ret (v := .tuple #[.agg #[.int .u64 0, .int .u64 0, .int .u64 gg, .int .i64 0, .int .i64 (-1), .bool false], .int .i64 er]) (by simp [results, Tryz.results150, go_sem, *]) rfl ⟨rfl, below_set6 HB5.out (show W.heap.size ≤ W.heap.size + 1 by omega)⟩
theorem mload_any (W : World) (N A M : Nat) (F : Nat → Prop) (s : Mch) (h : McS W N A M F s) (nt : Is.NT W) (op : Nat) (c : Cp) (hc : FitC c) :
    Calls Tryz.prog 150 #[.pointer (some ⟨A, 0, none⟩), .int .i64 (op : Int), .agg (capC c).toArray] W fun e w' => ∃ d : Cp, e = .returned (.tuple #[.agg (capC d).toArray, .int .i64 (loadP s.m op c).2]) ∧ ((loadP s.m op c).2 = 0 → d = (loadP s.m op c).1) ∧ Below W.heap.size W w' := by
  obtain ⟨cb, ct, ca, cp, cy, cg⟩ := c
  obtain ⟨an, rfl⟩ : ∃ an : Nat, ca = (an : Int) := ⟨ca.toNat, by have := hc.a0; simp only [] at this; omega⟩
  have e0 : ((an : Int)).toNat = an := by omega
  obtain ⟨⟨n, sg, o⟩, hw⟩ : ∃ q, Al.widthZ (opN (op : Int)) = q := ⟨_, rfl⟩
  unfold loadP
  rw [hw]
  simp only [e0]
  cases o with
  | false =>
    simp only [Bool.false_eq_true, if_false]
    exact load_cap W N A M F s h nt op an cb ct cp cy cg hc n sg hw
  | true =>
    simp only [if_true]
    by_cases hx : checkP ⟨cb, ct, (an : Int), cp, cy, cg⟩ n 1 = 0
    · rw [if_neg (by simpa using hx)]
      cases sg with
      | false => exact (load_plain W N A M F s h nt op an cb ct cp cy cg hc n hw hx).mono fun e w' q => ⟨_, q.1, fun _ => rfl, q.2⟩
      | true => exact (load_sign W N A M F s h nt op an cb ct cp cy cg hc n hw hx).mono fun e w' q => ⟨_, q.1, fun _ => rfl, q.2⟩
    · rw [if_pos (by simpa using hx)]
      exact (load_bad W N A M F s h nt op an cb ct cp cy cg hc n sg hw _ rfl hx).mono fun e w' q => ⟨⟨0, 0, 0, 0, 0, false⟩, q.1, fun e0 => absurd e0 hx, q.2⟩
end Go.Proofs.YtegoddghfjfibaaGreatDoor

namespace Go.Proofs.YtegoddghfjfibaaGreatDoor
set_option linter.unusedVariables false
set_option linter.unusedSimpArgs false
open Go.Joins Go.ChangeShapes Go.WideShapes Go.ChangeAt Go.RowKit Go.Deep

set_option maxHeartbeats 2000000 in
theorem high_far (W : World) (A M : Nat) (pc : Cp) (rs : List Cp) (h : McAt W A M pc rs) (nt : Is.NT W) (op rd r1 r2 : Nat) (n : Int) (hs : (opN (op : Int) == [97, 117, 105, 112, 99, 99]) = true) :
    Calls Tryz.prog 97 #[.pointer (some ⟨A, 0, none⟩), .agg #[.int .i64 (op : Int), .int .i64 (rd : Int), .int .i64 (r1 : Int), .int .i64 (r2 : Int), .int .i64 n]] W fun e w' => e = .returned (.agg (capC (aheadP pc (IntKind.u64.wrap n))).toArray) ∧ Below W.heap.size W w' := by
  obtain ⟨b1, b2, b3, b4⟩ := boxes2 W #[.int .i64 (op : Int), .int .i64 (rd : Int), .int .i64 (r1 : Int), .int .i64 (r2 : Int), .int .i64 n] zer6 61 24
  obtain ⟨W0, hW0⟩ : ∃ W0, (W.alloc (.cells #[.int .i64 (op : Int), .int .i64 (rd : Int), .int .i64 (r1 : Int), .int .i64 (r2 : Int), .int .i64 n] 61)).alloc (.cells zer6 24) = W0 := ⟨_, rfl⟩
  rw [hW0] at b1 b2 b3 b4
  have HN := Lib.hid (Is.name_any (op : Int) W0 (nt.on b1))
  have HC := Lib.hid (ahead_any W0 A M pc rs (h.below b1) (IntKind.u64.wrap n))
  obtain ⟨d, hd⟩ : ∃ d, (aheadP pc (IntKind.u64.wrap n)) = d := ⟨_, rfl⟩
  rw [hd] at HC ⊢
  obtain ⟨db, dt, da, dp, dy, dg⟩ := d
  unfold capC at HC ⊢
  simp only [] at HC ⊢
  obtain ⟨nm, hnm⟩ : ∃ s, opN (op : Int) = s := ⟨_, rfl⟩
  rw [hnm] at HN hs
  have hs := hs
  have HW0 := Lib.hid hW0
  have HB := Lib.hid b1
  have HZ := Lib.hid b3
  have x0 : W0.cell? ⟨W.heap.size, 0, none⟩ = some (.int .i64 (op : Int)) := b2.cell 0
  have x4 : W0.cell? ⟨W.heap.size, 4, none⟩ = some (.int .i64 n) := b2.cell 4
  clear hW0 b1 b2 b3 b4 h nt hd hnm
  go_enter Tryz.func97, Tryz.ntmps97
  go_upto_region 1 with fail
  (try rw [HW0.out])
  clear HW0
  go_wp2_with fail
  refine HN.out.mono ?_; rintro e w1 ⟨rfl, rfl⟩
  clear HN
  go_wp2_with fail
  refine HC.out.mono ?_; rintro e w2 ⟨rfl, hb⟩
  have HB2 := Lib.hid (HB.out.trans (hb.mono HB.out.size))
  obtain ⟨⟨i0, i1, i2, i3, i4, i5⟩, j0, j1, j2, j3, j4, j5⟩ := boxN6 (boxN_below HZ.out hb)
  clear hb HC x0 x4
  go_wp2_with fail
  exact bodyPost_ret (v := .agg #[.int .u64 db, .int .u64 dt, .int .u64 da, .int .i64 dp, .int .i64 dy, .bool dg]) (by simp [results, Tryz.results97, go_sem, *]) rfl ⟨rfl, below_set6 HB2.out (show W.heap.size ≤ W.heap.size + 1 by omega)⟩
set_option maxHeartbeats 2000000 in
theorem high_int (W : World) (A M : Nat) (pc : Cp) (rs : List Cp) (h : McAt W A M pc rs) (nt : Is.NT W) (op rd r1 r2 : Nat) (n : Int) (hs : (opN (op : Int) == [97, 117, 105, 112, 99, 99]) = false) :
    Calls Tryz.prog 97 #[.pointer (some ⟨A, 0, none⟩), .agg #[.int .i64 (op : Int), .int .i64 (rd : Int), .int .i64 (r1 : Int), .int .i64 (r2 : Int), .int .i64 n]] W fun e w' => e = .returned (.agg (capC (intP (IntKind.u64.wrap n))).toArray) ∧ Below W.heap.size W w' := by
  obtain ⟨b1, b2, b3, b4⟩ := boxes2 W #[.int .i64 (op : Int), .int .i64 (rd : Int), .int .i64 (r1 : Int), .int .i64 (r2 : Int), .int .i64 n] zer6 61 24
  obtain ⟨W0, hW0⟩ : ∃ W0, (W.alloc (.cells #[.int .i64 (op : Int), .int .i64 (rd : Int), .int .i64 (r1 : Int), .int .i64 (r2 : Int), .int .i64 n] 61)).alloc (.cells zer6 24) = W0 := ⟨_, rfl⟩
  rw [hW0] at b1 b2 b3 b4
  have HN := Lib.hid (Is.name_any (op : Int) W0 (nt.on b1))
  have HC := Lib.hid (cint_any (IntKind.u64.wrap n) W0)
  obtain ⟨d, hd⟩ : ∃ d, (intP (IntKind.u64.wrap n)) = d := ⟨_, rfl⟩
  rw [hd] at HC ⊢
  obtain ⟨db, dt, da, dp, dy, dg⟩ := d
  unfold capC at HC ⊢
  simp only [] at HC ⊢
  obtain ⟨nm, hnm⟩ : ∃ s, opN (op : Int) = s := ⟨_, rfl⟩
  rw [hnm] at HN hs
  have hs := hs
  have HW0 := Lib.hid hW0
  have HB := Lib.hid b1
  have HZ := Lib.hid b3
  have x0 : W0.cell? ⟨W.heap.size, 0, none⟩ = some (.int .i64 (op : Int)) := b2.cell 0
  have x4 : W0.cell? ⟨W.heap.size, 4, none⟩ = some (.int .i64 n) := b2.cell 4
  clear hW0 b1 b2 b3 b4 h nt hd hnm
  go_enter Tryz.func97, Tryz.ntmps97
  go_upto_region 1 with fail
  (try rw [HW0.out])
  clear HW0
  go_wp2_with fail
  refine HN.out.mono ?_; rintro e w1 ⟨rfl, rfl⟩
  clear HN
  go_wp2_with fail
  refine HC.out.mono ?_; rintro e w2 ⟨rfl, hb⟩
  have HB2 := Lib.hid (HB.out.trans (hb.mono HB.out.size))
  obtain ⟨⟨i0, i1, i2, i3, i4, i5⟩, j0, j1, j2, j3, j4, j5⟩ := boxN6 (boxN_below HZ.out hb)
  clear hb HC x0 x4
  go_wp2_with fail
  exact bodyPost_ret (v := .agg #[.int .u64 db, .int .u64 dt, .int .u64 da, .int .i64 dp, .int .i64 dy, .bool dg]) (by simp [results, Tryz.results97, go_sem, *]) rfl ⟨rfl, below_set6 HB2.out (show W.heap.size ≤ W.heap.size + 1 by omega)⟩
theorem mhigh_any (W : World) (A M : Nat) (pc : Cp) (rs : List Cp) (h : McAt W A M pc rs) (nt : Is.NT W) (x : Ins) :
    Calls Tryz.prog 97 #[.pointer (some ⟨A, 0, none⟩), .agg (insV x)] W fun e w' => e = .returned (.agg (capC (highP x pc)).toArray) ∧ Below W.heap.size W w' := by
  obtain ⟨op, rd, r1, r2, n⟩ := x
  unfold highP insV nameP
  simp only []
  rcases hs : (opN (op : Int) == [97, 117, 105, 112, 99, 99]) with _ | _
  · rw [if_neg (by simp)]
    exact high_int W A M pc rs h nt op rd r1 r2 n hs
  · rw [if_pos rfl]
    exact high_far W A M pc rs h nt op rd r1 r2 n hs
end Go.Proofs.YtegoddghfjfibaaGreatDoor

