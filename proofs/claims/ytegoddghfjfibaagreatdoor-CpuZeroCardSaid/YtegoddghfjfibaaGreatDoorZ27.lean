/- CuJ -/
import Derived.Test.YtegoddghfjfibaaGreatDoorZ26
namespace Go.Proofs.YtegoddghfjfibaaGreatDoor
set_option linter.unusedVariables false
set_option linter.unusedSimpArgs false
open Go.Joins Go.ChangeShapes Go.WideShapes Go.ChangeAt Go.RowKit Go.Deep

/-- which value comes -/
inductive AsC (nmv : List UInt8) (db dt da dp dy : Int) (dg : Bool) (v : Cp) : Prop where
  | c0 (h0 : (nmv == [99, 103, 101, 116, 112, 101, 114, 109]) = true) (hv : intP (IntKind.u64.wrap dp) = v)
  | c1 (h0 : (nmv == [99, 103, 101, 116, 112, 101, 114, 109]) = false) (h1 : (nmv == [99, 103, 101, 116, 116, 121, 112, 101]) = true) (hv : intP (IntKind.u64.wrap dy) = v)
  | c2 (h0 : (nmv == [99, 103, 101, 116, 112, 101, 114, 109]) = false) (h1 : (nmv == [99, 103, 101, 116, 116, 121, 112, 101]) = false) (h2 : (nmv == [99, 103, 101, 116, 98, 97, 115, 101]) = true) (hv : intP db = v)
  | c3 (h0 : (nmv == [99, 103, 101, 116, 112, 101, 114, 109]) = false) (h1 : (nmv == [99, 103, 101, 116, 116, 121, 112, 101]) = false) (h2 : (nmv == [99, 103, 101, 116, 98, 97, 115, 101]) = false) (h3 : (nmv == [99, 103, 101, 116, 108, 101, 110]) = true) (hv : intP (if dt ≤ db then 0 else dt - db) = v)
  | c4 (h0 : (nmv == [99, 103, 101, 116, 112, 101, 114, 109]) = false) (h1 : (nmv == [99, 103, 101, 116, 116, 121, 112, 101]) = false) (h2 : (nmv == [99, 103, 101, 116, 98, 97, 115, 101]) = false) (h3 : (nmv == [99, 103, 101, 116, 108, 101, 110]) = false) (h4 : (nmv == [99, 103, 101, 116, 116, 97, 103]) = true) (hv : flagP dg = v)
  | c5 (h0 : (nmv == [99, 103, 101, 116, 112, 101, 114, 109]) = false) (h1 : (nmv == [99, 103, 101, 116, 116, 121, 112, 101]) = false) (h2 : (nmv == [99, 103, 101, 116, 98, 97, 115, 101]) = false) (h3 : (nmv == [99, 103, 101, 116, 108, 101, 110]) = false) (h4 : (nmv == [99, 103, 101, 116, 116, 97, 103]) = false) (h5 : (nmv == [99, 99, 108, 101, 97, 114, 116, 97, 103]) = true) (hv : clearP ⟨db, dt, da, dp, dy, dg⟩ = v)
  | c6 (h0 : (nmv == [99, 103, 101, 116, 112, 101, 114, 109]) = false) (h1 : (nmv == [99, 103, 101, 116, 116, 121, 112, 101]) = false) (h2 : (nmv == [99, 103, 101, 116, 98, 97, 115, 101]) = false) (h3 : (nmv == [99, 103, 101, 116, 108, 101, 110]) = false) (h4 : (nmv == [99, 103, 101, 116, 116, 97, 103]) = false) (h5 : (nmv == [99, 99, 108, 101, 97, 114, 116, 97, 103]) = false) (h6 : (nmv == [99, 103, 101, 116, 97, 100, 100, 114]) = true) (hv : intP da = v)
  | c7 (h0 : (nmv == [99, 103, 101, 116, 112, 101, 114, 109]) = false) (h1 : (nmv == [99, 103, 101, 116, 116, 121, 112, 101]) = false) (h2 : (nmv == [99, 103, 101, 116, 98, 97, 115, 101]) = false) (h3 : (nmv == [99, 103, 101, 116, 108, 101, 110]) = false) (h4 : (nmv == [99, 103, 101, 116, 116, 97, 103]) = false) (h5 : (nmv == [99, 99, 108, 101, 97, 114, 116, 97, 103]) = false) (h6 : (nmv == [99, 103, 101, 116, 97, 100, 100, 114]) = false) (hv : (⟨db, dt, da, dp, dy, dg⟩ : Cp) = v)
set_option maxHeartbeats 16000000 in
theorem ask_all (W : World) (A M : Nat) (pc : Cp) (rs : List Cp) (h : McAt W A M pc rs) (nt : Is.NT W) (op rd r1 r2 : Nat) (n : Int) (h1 : r1 < 32) (db dt da dp dy : Int) (dg : Bool) (hd : regP rs r1 = ⟨db, dt, da, dp, dy, dg⟩) (hf : FitC ⟨db, dt, da, dp, dy, dg⟩) (vb vt va vp vy : Int) (vg : Bool) (hc : AsC (opN (op : Int)) db dt da dp dy dg ⟨vb, vt, va, vp, vy, vg⟩) :
    Calls Tryz.prog 92 #[.pointer (some ⟨A, 0, none⟩), .agg #[.int .i64 (op : Int), .int .i64 (rd : Int), .int .i64 (r1 : Int), .int .i64 (r2 : Int), .int .i64 n]] W fun e w' => e = .returned (.agg #[.int .u64 vb, .int .u64 vt, .int .u64 va, .int .i64 vp, .int .i64 vy, .bool vg]) ∧ Below W.heap.size W w' := by
  obtain ⟨b1, b2, b3, b4⟩ := boxes2 W #[.int .i64 (op : Int), .int .i64 (rd : Int), .int .i64 (r1 : Int), .int .i64 (r2 : Int), .int .i64 n] zer6 61 24
  obtain ⟨W0, hW0⟩ : ∃ W0, (W.alloc (.cells #[.int .i64 (op : Int), .int .i64 (rd : Int), .int .i64 (r1 : Int), .int .i64 (r2 : Int), .int .i64 n] 61)).alloc (.cells zer6 24) = W0 := ⟨_, rfl⟩
  rw [hW0] at b1 b2 b3 b4
  have C := mread_any W0 A M pc rs (h.below b1) r1 h1
  rw [hd] at C
  unfold capC at C
  simp only [] at C
  have HC := Lib.hid C
  have HNM := Lib.hid (fun w (hb : Below W.heap.size W w) => Is.name_any (op : Int) w (nt.on hb))
  obtain ⟨nm, hnm⟩ : ∃ s, opN (op : Int) = s := ⟨_, rfl⟩
  rw [hnm] at HNM hc
  have HCS := Lib.hid hc
  have HF := Lib.hid hf
  have HW0 := Lib.hid hW0
  have HB := Lib.hid b1
  have HX := Lib.hid b2
  have HZ := Lib.hid b3
  have x2 : W0.cell? ⟨W.heap.size, 2, none⟩ = some (.int .i64 (r1 : Int)) := b2.cell 2
  clear hW0 b1 b2 b3 b4 h nt hd hnm C hf hc
  go_enter Tryz.func92, Tryz.ntmps92
  go_upto_region 1 with fail
  (try rw [HW0.out])
  clear HW0
  go_wp2_with fail
  refine HC.out.mono ?_; rintro e w1 ⟨rfl, hb⟩
  have HBA := Lib.hid (HB.out.trans (hb.mono HB.out.size))
  have hX0 := boxN_below HX.out hb
  have hX1 := boxN_below HZ.out hb
  clear HC x2
  go_upto_region 2 with fail
  obtain ⟨w2, hw2⟩ : ∃ w2, w1.alloc (.cells #[.int .u64 db, .int .u64 dt, .int .u64 da, .int .i64 dp, .int .i64 dy, .bool dg] 24) = w2 := ⟨_, rfl⟩
  have hba : Below w1.heap.size w1 w2 := by rw [← hw2]; exact bAlloc (Below.refl _ _) _
  have hX2 : BoxN w2 w1.heap.size #[.int .u64 db, .int .u64 dt, .int .u64 da, .int .i64 dp, .int .i64 dy, .bool dg] := by rw [← hw2]; exact BoxN.new _ _ _
  rw [hw2]
  have HBB := Lib.hid (HBA.out.trans (hba.mono HBA.out.size))
  have HN2 := Lib.hid (HNM.out w2 HBB.out)
  have y0 : w2.cell? ⟨W.heap.size, 0, none⟩ = some (.int .i64 (op : Int)) := (boxN_below hX0 hba).cell 0
  have HX2 := Lib.hid hX2
  have HZ2 := Lib.hid (boxN_below hX1 hba)
  obtain ⟨B2, hB2⟩ : ∃ b, w1.heap.size = b := ⟨_, rfl⟩
  have hl1 : W.heap.size + 1 < B2 := by rw [← hB2]; exact hX1.lt
  rw [hB2] at HX2 ⊢
  have HB2 := Lib.hid hl1
  clear hb hX0 hX1 hw2 hba hX2 hB2 hl1 HNM
  go_wp2_with fail
  refine HN2.out.mono ?_; rintro e w3 ⟨rfl, rfl⟩
  clear HN2 y0
  obtain ⟨⟨c0, c1, c2, c3, c4, c5⟩, f0, f1, f2, f3, f4, f5⟩ := boxN6 HX2.out
  obtain ⟨⟨i0, i1, i2, i3, i4, i5⟩, j0, j1, j2, j3, j4, j5⟩ := boxN6 HZ2.out
  cases HCS.out with
  | c0 h0 hv =>
    have HV := Lib.hid (fun w => cint_any (IntKind.u64.wrap dp) w)
    rw [hv] at HV
    unfold capC at HV
    simp only [] at HV
    clear hv
    go_wp2_with fail
    refine (HV.out _).mono ?_; rintro e w4 ⟨rfl, hb4⟩
    have HB4 := Lib.hid (HBB.out.trans (hb4.mono HBB.out.size))
    clear c0 c1 c2 c3 c4 c5 f0 f1 f2 f3 f4 f5 i0 i1 i2 i3 i4 i5 j0 j1 j2 j3 j4 j5
    obtain ⟨⟨i0, i1, i2, i3, i4, i5⟩, j0, j1, j2, j3, j4, j5⟩ := boxN6 (boxN_below HZ2.out hb4)
    clear hb4
    go_wp2_with fail
    exact bodyPost_ret (v := .agg #[.int .u64 vb, .int .u64 vt, .int .u64 va, .int .i64 vp, .int .i64 vy, .bool vg]) (by simp [results, Tryz.results92, go_sem, *]) rfl ⟨rfl, below_set6 HB4.out (show W.heap.size ≤ W.heap.size + 1 by omega)⟩
  | c1 h0 h1 hv =>
    have HV := Lib.hid (fun w => cint_any (IntKind.u64.wrap dy) w)
    rw [hv] at HV
    unfold capC at HV
    simp only [] at HV
    clear hv
    go_wp2_with fail
    refine (HV.out _).mono ?_; rintro e w4 ⟨rfl, hb4⟩
    have HB4 := Lib.hid (HBB.out.trans (hb4.mono HBB.out.size))
    clear c0 c1 c2 c3 c4 c5 f0 f1 f2 f3 f4 f5 i0 i1 i2 i3 i4 i5 j0 j1 j2 j3 j4 j5
    obtain ⟨⟨i0, i1, i2, i3, i4, i5⟩, j0, j1, j2, j3, j4, j5⟩ := boxN6 (boxN_below HZ2.out hb4)
    clear hb4
    go_wp2_with fail
    exact bodyPost_ret (v := .agg #[.int .u64 vb, .int .u64 vt, .int .u64 va, .int .i64 vp, .int .i64 vy, .bool vg]) (by simp [results, Tryz.results92, go_sem, *]) rfl ⟨rfl, below_set6 HB4.out (show W.heap.size ≤ W.heap.size + 1 by omega)⟩
  | c2 h0 h1 h2 hv =>
    have HV := Lib.hid (fun w => cint_any db w)
    rw [hv] at HV
    unfold capC at HV
    simp only [] at HV
    clear hv
    go_wp2_with fail
    refine (HV.out _).mono ?_; rintro e w4 ⟨rfl, hb4⟩
    have HB4 := Lib.hid (HBB.out.trans (hb4.mono HBB.out.size))
    clear c0 c1 c2 c3 c4 c5 f0 f1 f2 f3 f4 f5 i0 i1 i2 i3 i4 i5 j0 j1 j2 j3 j4 j5
    obtain ⟨⟨i0, i1, i2, i3, i4, i5⟩, j0, j1, j2, j3, j4, j5⟩ := boxN6 (boxN_below HZ2.out hb4)
    clear hb4
    go_wp2_with fail
    exact bodyPost_ret (v := .agg #[.int .u64 vb, .int .u64 vt, .int .u64 va, .int .i64 vp, .int .i64 vy, .bool vg]) (by simp [results, Tryz.results92, go_sem, *]) rfl ⟨rfl, below_set6 HB4.out (show W.heap.size ≤ W.heap.size + 1 by omega)⟩
  | c3 h0 h1 h2 h3 hv =>
    have HV := Lib.hid (fun w => cint_any (if dt ≤ db then 0 else dt - db) w)
    have hl0 : IntKind.u64.wrap ((if dt ≤ db then db else dt) - db) = (if dt ≤ db then 0 else dt - db) := by
      have := HF.out.b0; have := HF.out.t1; have := HF.out.b1; have := HF.out.t0
      simp only [] at *
      split
      · rw [IntKind.wrap_u64]; omega
      · rw [IntKind.wrap_u64]; omega
    obtain ⟨ln, hln⟩ : ∃ ln, (if dt ≤ db then 0 else dt - db) = ln := ⟨_, rfl⟩
    rw [hln] at hl0 HV hv
    have hmx : (if dt ≤ db then db else dt) = max dt db := by
      split <;> omega
    rw [hmx] at hl0
    clear hln hmx
    rw [hv] at HV
    unfold capC at HV
    simp only [] at HV
    clear hv
    go_wp2_with fail
    refine (HV.out _).mono ?_; rintro e w4 ⟨rfl, hb4⟩
    have HB4 := Lib.hid (HBB.out.trans (hb4.mono HBB.out.size))
    clear c0 c1 c2 c3 c4 c5 f0 f1 f2 f3 f4 f5 i0 i1 i2 i3 i4 i5 j0 j1 j2 j3 j4 j5
    obtain ⟨⟨i0, i1, i2, i3, i4, i5⟩, j0, j1, j2, j3, j4, j5⟩ := boxN6 (boxN_below HZ2.out hb4)
    clear hb4
    go_wp2_with fail
    exact bodyPost_ret (v := .agg #[.int .u64 vb, .int .u64 vt, .int .u64 va, .int .i64 vp, .int .i64 vy, .bool vg]) (by simp [results, Tryz.results92, go_sem, *]) rfl ⟨rfl, below_set6 HB4.out (show W.heap.size ≤ W.heap.size + 1 by omega)⟩
  | c4 h0 h1 h2 h3 h4 hv =>
    have HV := Lib.hid (fun w => flag_any dg w)
    rw [hv] at HV
    unfold capC at HV
    simp only [] at HV
    clear hv
    go_wp2_with fail
    refine (HV.out _).mono ?_; rintro e w4 ⟨rfl, hb4⟩
    have HB4 := Lib.hid (HBB.out.trans (hb4.mono HBB.out.size))
    clear c0 c1 c2 c3 c4 c5 f0 f1 f2 f3 f4 f5 i0 i1 i2 i3 i4 i5 j0 j1 j2 j3 j4 j5
    obtain ⟨⟨i0, i1, i2, i3, i4, i5⟩, j0, j1, j2, j3, j4, j5⟩ := boxN6 (boxN_below HZ2.out hb4)
    clear hb4
    go_wp2_with fail
    exact bodyPost_ret (v := .agg #[.int .u64 vb, .int .u64 vt, .int .u64 va, .int .i64 vp, .int .i64 vy, .bool vg]) (by simp [results, Tryz.results92, go_sem, *]) rfl ⟨rfl, below_set6 HB4.out (show W.heap.size ≤ W.heap.size + 1 by omega)⟩
  | c5 h0 h1 h2 h3 h4 h5 hv =>
    have HV := Lib.hid (fun w => cclear_any ⟨db, dt, da, dp, dy, dg⟩ w)
    rw [hv] at HV
    unfold capC at HV
    simp only [] at HV
    clear hv
    go_wp2_with fail
    refine (HV.out _).mono ?_; rintro e w4 ⟨rfl, hb4⟩
    have HB4 := Lib.hid (HBB.out.trans (hb4.mono HBB.out.size))
    clear c0 c1 c2 c3 c4 c5 f0 f1 f2 f3 f4 f5 i0 i1 i2 i3 i4 i5 j0 j1 j2 j3 j4 j5
    obtain ⟨⟨i0, i1, i2, i3, i4, i5⟩, j0, j1, j2, j3, j4, j5⟩ := boxN6 (boxN_below HZ2.out hb4)
    clear hb4
    go_wp2_with fail
    exact bodyPost_ret (v := .agg #[.int .u64 vb, .int .u64 vt, .int .u64 va, .int .i64 vp, .int .i64 vy, .bool vg]) (by simp [results, Tryz.results92, go_sem, *]) rfl ⟨rfl, below_set6 HB4.out (show W.heap.size ≤ W.heap.size + 1 by omega)⟩
  | c6 h0 h1 h2 h3 h4 h5 h6 hv =>
    have HV := Lib.hid (fun w => cint_any da w)
    rw [hv] at HV
    unfold capC at HV
    simp only [] at HV
    clear hv
    go_wp2_with fail
    refine (HV.out _).mono ?_; rintro e w4 ⟨rfl, hb4⟩
    have HB4 := Lib.hid (HBB.out.trans (hb4.mono HBB.out.size))
    clear c0 c1 c2 c3 c4 c5 f0 f1 f2 f3 f4 f5 i0 i1 i2 i3 i4 i5 j0 j1 j2 j3 j4 j5
    obtain ⟨⟨i0, i1, i2, i3, i4, i5⟩, j0, j1, j2, j3, j4, j5⟩ := boxN6 (boxN_below HZ2.out hb4)
    clear hb4
    go_wp2_with fail
    exact bodyPost_ret (v := .agg #[.int .u64 vb, .int .u64 vt, .int .u64 va, .int .i64 vp, .int .i64 vy, .bool vg]) (by simp [results, Tryz.results92, go_sem, *]) rfl ⟨rfl, below_set6 HB4.out (show W.heap.size ≤ W.heap.size + 1 by omega)⟩
  | c7 h0 h1 h2 h3 h4 h5 h6 hv =>
    cases hv
    go_wp2_with fail
    have HB4 := HBB
    exact bodyPost_ret (v := .agg #[.int .u64 db, .int .u64 dt, .int .u64 da, .int .i64 dp, .int .i64 dy, .bool dg]) (by simp [results, Tryz.results92, go_sem, *]) rfl ⟨rfl, below_set6 HB4.out (show W.heap.size ≤ W.heap.size + 1 by omega)⟩
theorem ask_any (W : World) (A M : Nat) (pc : Cp) (rs : List Cp) (h : McAt W A M pc rs) (fr : ∀ c ∈ rs, FitC c) (nt : Is.NT W) (x : Ins) (h1 : x.r1 < 32) :
    Calls Tryz.prog 92 #[.pointer (some ⟨A, 0, none⟩), .agg (insV x)] W fun e w' => e = .returned (.agg (capC (askP x rs)).toArray) ∧ Below W.heap.size W w' := by
  obtain ⟨op, rd, r1, r2, n⟩ := x
  unfold askP insV nameP
  simp only [] at h1 ⊢
  have hf := regP_fit fr r1
  obtain ⟨⟨db, dt, da, dp, dy, dg⟩, hd⟩ : ∃ d, regP rs r1 = d := ⟨_, rfl⟩
  rw [hd] at hf ⊢
  simp only []
  by_cases s0 : (opN (op : Int) == [99, 103, 101, 116, 112, 101, 114, 109]) = true
  · rw [if_pos s0]
    exact ask_all W A M pc rs h nt op rd r1 r2 n h1 db dt da dp dy dg hd hf _ _ _ _ _ _ (.c0 s0 rfl)
  rw [if_neg s0]
  rw [Bool.not_eq_true] at s0
  by_cases s1 : (opN (op : Int) == [99, 103, 101, 116, 116, 121, 112, 101]) = true
  · rw [if_pos s1]
    exact ask_all W A M pc rs h nt op rd r1 r2 n h1 db dt da dp dy dg hd hf _ _ _ _ _ _ (.c1 s0 s1 rfl)
  rw [if_neg s1]
  rw [Bool.not_eq_true] at s1
  by_cases s2 : (opN (op : Int) == [99, 103, 101, 116, 98, 97, 115, 101]) = true
  · rw [if_pos s2]
    exact ask_all W A M pc rs h nt op rd r1 r2 n h1 db dt da dp dy dg hd hf _ _ _ _ _ _ (.c2 s0 s1 s2 rfl)
  rw [if_neg s2]
  rw [Bool.not_eq_true] at s2
  by_cases s3 : (opN (op : Int) == [99, 103, 101, 116, 108, 101, 110]) = true
  · rw [if_pos s3]
    exact ask_all W A M pc rs h nt op rd r1 r2 n h1 db dt da dp dy dg hd hf _ _ _ _ _ _ (.c3 s0 s1 s2 s3 rfl)
  rw [if_neg s3]
  rw [Bool.not_eq_true] at s3
  by_cases s4 : (opN (op : Int) == [99, 103, 101, 116, 116, 97, 103]) = true
  · rw [if_pos s4]
    exact ask_all W A M pc rs h nt op rd r1 r2 n h1 db dt da dp dy dg hd hf _ _ _ _ _ _ (.c4 s0 s1 s2 s3 s4 rfl)
  rw [if_neg s4]
  rw [Bool.not_eq_true] at s4
  by_cases s5 : (opN (op : Int) == [99, 99, 108, 101, 97, 114, 116, 97, 103]) = true
  · rw [if_pos s5]
    exact ask_all W A M pc rs h nt op rd r1 r2 n h1 db dt da dp dy dg hd hf _ _ _ _ _ _ (.c5 s0 s1 s2 s3 s4 s5 rfl)
  rw [if_neg s5]
  rw [Bool.not_eq_true] at s5
  by_cases s6 : (opN (op : Int) == [99, 103, 101, 116, 97, 100, 100, 114]) = true
  · rw [if_pos s6]
    exact ask_all W A M pc rs h nt op rd r1 r2 n h1 db dt da dp dy dg hd hf _ _ _ _ _ _ (.c6 s0 s1 s2 s3 s4 s5 s6 rfl)
  rw [if_neg s6]
  rw [Bool.not_eq_true] at s6
  exact ask_all W A M pc rs h nt op rd r1 r2 n h1 db dt da dp dy dg hd hf _ _ _ _ _ _ (.c7 s0 s1 s2 s3 s4 s5 s6 rfl)
end Go.Proofs.YtegoddghfjfibaaGreatDoor

