/- What the document's reader reads of a symbol, and of lists: contracts. -/
import Derived.Test.YtknldomgmogccaaCgF
import Derived.Deep.Cut
import Derived.BigRegion
namespace Go.Proofs.Ytknldomgmogccaa
set_option linter.unusedVariables false
set_option linter.unusedSimpArgs false
open Go.Joins Go.ChangeShapes Go.WideShapes Go.ChangeAt Go.RowKit Go.Deep

set_option maxHeartbeats 4000000 in
set_option maxRecDepth 100000 in
theorem rsymbol_any (base R : Nat) (b : List UInt8) (s : St) (W : World) (h : RrAt base R W b s) :
    Calls Try.prog 18 #[.pointer (some ⟨R, 0, none⟩)] W fun e W' => e = .returned (.agg (symC (symP s).1).toArray) ∧ RrAt base R W' b (symP s).2 ∧ KP W.heap.size (· = R) W W' := by
  have hlt := h.lt
  have HC1 := Lib.hid (fun W (hW : RrAt base R W b s) => rtext_any base R b s W hW)
  obtain ⟨⟨x1, s1⟩, hx1⟩ : ∃ x, textP s = x := ⟨_, rfl⟩
  rw [hx1] at HC1
  simp only [] at HC1
  have HC2 := Lib.hid (fun W (hW : RrAt base R W b s1) => rtext_any base R b s1 W hW)
  obtain ⟨⟨x2, s2⟩, hx2⟩ : ∃ x, textP s1 = x := ⟨_, rfl⟩
  rw [hx2] at HC2
  simp only [] at HC2
  have HC3 := Lib.hid (fun W (hW : RrAt base R W b s2) => rnum_any base R b s2 4 W hW (by decide) (by decide))
  have hlt3 := numP_lt 4 s2
  obtain ⟨⟨x3, s3⟩, hx3⟩ : ∃ x, numP 4 s2 = x := ⟨_, rfl⟩
  rw [hx3] at HC3 hlt3
  simp only [] at HC3 hlt3
  have HC4 := Lib.hid (fun W (hW : RrAt base R W b s3) => rnum_any base R b s3 4 W hW (by decide) (by decide))
  have hlt4 := numP_lt 4 s3
  obtain ⟨⟨x4, s4⟩, hx4⟩ : ∃ x, numP 4 s3 = x := ⟨_, rfl⟩
  rw [hx4] at HC4 hlt4
  simp only [] at HC4 hlt4
  have HC5 := Lib.hid (fun W (hW : RrAt base R W b s4) => rnum_any base R b s4 1 W hW (by decide) (by decide))
  have hlt5 := numP_lt 1 s4
  obtain ⟨⟨x5, s5⟩, hx5⟩ : ∃ x, numP 1 s4 = x := ⟨_, rfl⟩
  rw [hx5] at HC5 hlt5
  simp only [] at HC5 hlt5
  have HC6 := Lib.hid (fun W (hW : RrAt base R W b s5) => rnum_any base R b s5 1 W hW (by decide) (by decide))
  have hlt6 := numP_lt 1 s5
  obtain ⟨⟨x6, s6⟩, hx6⟩ : ∃ x, numP 1 s5 = x := ⟨_, rfl⟩
  rw [hx6] at HC6 hlt6
  simp only [] at HC6 hlt6
  have HC7 := Lib.hid (fun W (hW : RrAt base R W b s6) => rnum_any base R b s6 1 W hW (by decide) (by decide))
  have hlt7 := numP_lt 1 s6
  obtain ⟨⟨x7, s7⟩, hx7⟩ : ∃ x, numP 1 s6 = x := ⟨_, rfl⟩
  rw [hx7] at HC7 hlt7
  simp only [] at HC7 hlt7
  have HC8 := Lib.hid (fun W (hW : RrAt base R W b s7) => rnum_any base R b s7 1 W hW (by decide) (by decide))
  have hlt8 := numP_lt 1 s7
  obtain ⟨⟨x8, s8⟩, hx8⟩ : ∃ x, numP 1 s7 = x := ⟨_, rfl⟩
  rw [hx8] at HC8 hlt8
  simp only [] at HC8 hlt8
  have hsp : symP s = (⟨x1, x2, (x3 : Int), (x4 : Int), (x5 : Int), (x6 : Int), (x7 : Int), decide ((x8 : Int) = 1)⟩, if s8.wrong = 0 ∧ 1 < x8 then ⟨s8.rest, 106⟩ else s8) := by
    unfold symP
    simp only [hx1, hx2, hx3, hx4, hx5, hx6, hx7, hx8]
  rw [hsp]
  unfold symC
  simp only []
  obtain ⟨sf, hsf⟩ : ∃ sf, (if s8.wrong = 0 ∧ 1 < x8 then (⟨s8.rest, 106⟩ : St) else s8) = sf := ⟨_, rfl⟩
  obtain ⟨bf, hbf⟩ : ∃ bf, decide ((x8 : Int) = 1) = bf := ⟨_, rfl⟩
  rw [hsf, hbf]
  obtain ⟨e8, he8⟩ : ∃ e, s8.wrong = e := ⟨_, rfl⟩
  rw [he8] at hsf
  have HSF := Lib.hid hsf
  have HBE := Lib.hid (show ((x8 : Int) == 1) = bf from hbf)
  have HE8 := Lib.hid he8
  have h3' : x3 < 4294967296 := hlt3
  have h4' : x4 < 4294967296 := hlt4
  have w3 : IntKind.u64.wrap (x3 : Int) = (x3 : Int) := by rw [IntKind.wrap_u64]; omega
  have w4 : IntKind.u64.wrap (x4 : Int) = (x4 : Int) := by rw [IntKind.wrap_u64]; omega
  obtain ⟨V0, hV0⟩ : ∃ V, (W.alloc (.cells #[.string ⟨#[]⟩, .string ⟨#[]⟩, .int .u64 0, .int .u64 0, .int .i64 0, .int .i64 0, .int .i64 0, .bool false] 42)).alloc (.cells #[.string ⟨#[]⟩, .string ⟨#[]⟩, .int .u64 0, .int .u64 0, .int .i64 0, .int .i64 0, .int .i64 0, .bool false] 42) = V := ⟨_, rfl⟩
  have HBX : Hid (BoxN V0 W.heap.size #[.string ⟨#[]⟩, .string ⟨#[]⟩, .int .u64 0, .int .u64 0, .int .i64 0, .int .i64 0, .int .i64 0, .bool false]) := Lib.hid (by rw [← hV0]; exact boxN_alloc (BoxN.new W _ _) _)
  have HB3 : Hid (BoxN V0 (W.heap.size + 1) #[.string ⟨#[]⟩, .string ⟨#[]⟩, .int .u64 0, .int .u64 0, .int .i64 0, .int .i64 0, .int .i64 0, .bool false]) := Lib.hid (by
    rw [← hV0]
    have := BoxN.new (W.alloc (.cells #[.string ⟨#[]⟩, .string ⟨#[]⟩, .int .u64 0, .int .u64 0, .int .i64 0, .int .i64 0, .int .i64 0, .bool false] 42)) #[.string ⟨#[]⟩, .string ⟨#[]⟩, .int .u64 0, .int .u64 0, .int .i64 0, .int .i64 0, .int .i64 0, .bool false] 42
    rwa [size_alloc] at this)
  have HR : Hid (RrAt base R V0 b s) := Lib.hid (h.below (by rw [← hV0]; exact bAlloc (bAlloc (Below.refl _ _) _) _))
  have HK : Hid (KP W.heap.size (· = R) W V0) := Lib.hid (by rw [← hV0]; exact (kp_alloc W R _).alloc _ (by rw [size_alloc]; omega))
  have hs0 : W.heap.size + 1 < V0.heap.size := HB3.out.lt
  have HV0 := Lib.hid hV0
  clear hV0 hsp h hsf hbf he8 hlt3 hlt4 hx1 hx2 hx3 hx4 hx5 hx6 hx7 hx8
  go_enter Try.func18, Try.ntmps18
  go_upto_region 2 with fail
  rw [HV0.out]
  clear HV0
  go_wp2_with fail
  refine (HC1.out _ HR.out).mono ?_; rintro e W1 ⟨rfl, hrd, hkp⟩
  have HK := Lib.hid (step_kp HK.out hkp)
  have HBX := Lib.hid (step_box HBX.out hkp (by omega))
  have HB3 := Lib.hid (step_box HB3.out hkp (by omega))
  have HR := Lib.hid hrd
  clear hrd hkp
  have t : W1.cell? ⟨W.heap.size + 1, 0, none⟩ = some (.string ⟨#[]⟩) := HB3.out.cell 0
  have tz : W1.frozen? ⟨W.heap.size + 1, 0, none⟩ = false := HB3.out.frozen 0
  go_upto_region 3 with fail
  have HR := Lib.hid (rr_setB (B := W.heap.size + 1) (j := 0) HR.out (by omega) (.string ⟨x1.toArray⟩))
  have HK := Lib.hid (kp_set (B := W.heap.size + 1) (j := 0) HK.out (by omega) (.string ⟨x1.toArray⟩))
  have HBX := Lib.hid (step_box HBX.out (KP.set1 W1 (W.heap.size + 1) 0 (.string ⟨x1.toArray⟩)) (by omega))
  have HB3 := Lib.hid (show BoxN _ _ #[.string ⟨x1.toArray⟩, .string ⟨#[]⟩, .int .u64 0, .int .u64 0, .int .i64 0, .int .i64 0, .int .i64 0, .bool false] from HB3.out.set 0 (.string ⟨x1.toArray⟩))
  obtain ⟨V1, hV1⟩ : ∃ W', W1.setCell ⟨W.heap.size + 1, 0, none⟩ (.string ⟨x1.toArray⟩) = W' := ⟨_, rfl⟩
  rw [hV1] at HR HK HBX HB3 ⊢
  clear hV1
  clear t tz
  go_wp2_with fail
  refine (HC2.out _ HR.out).mono ?_; rintro e W2 ⟨rfl, hrd, hkp⟩
  have HK := Lib.hid (step_kp HK.out hkp)
  have HBX := Lib.hid (step_box HBX.out hkp (by omega))
  have HB3 := Lib.hid (step_box HB3.out hkp (by omega))
  have HR := Lib.hid hrd
  clear hrd hkp
  have t : W2.cell? ⟨W.heap.size + 1, 1, none⟩ = some (.string ⟨#[]⟩) := HB3.out.cell 1
  have tz : W2.frozen? ⟨W.heap.size + 1, 1, none⟩ = false := HB3.out.frozen 1
  go_upto_region 4 with fail
  have HR := Lib.hid (rr_setB (B := W.heap.size + 1) (j := 1) HR.out (by omega) (.string ⟨x2.toArray⟩))
  have HK := Lib.hid (kp_set (B := W.heap.size + 1) (j := 1) HK.out (by omega) (.string ⟨x2.toArray⟩))
  have HBX := Lib.hid (step_box HBX.out (KP.set1 W2 (W.heap.size + 1) 1 (.string ⟨x2.toArray⟩)) (by omega))
  have HB3 := Lib.hid (show BoxN _ _ #[.string ⟨x1.toArray⟩, .string ⟨x2.toArray⟩, .int .u64 0, .int .u64 0, .int .i64 0, .int .i64 0, .int .i64 0, .bool false] from HB3.out.set 1 (.string ⟨x2.toArray⟩))
  obtain ⟨V2, hV2⟩ : ∃ W', W2.setCell ⟨W.heap.size + 1, 1, none⟩ (.string ⟨x2.toArray⟩) = W' := ⟨_, rfl⟩
  rw [hV2] at HR HK HBX HB3 ⊢
  clear hV2
  clear t tz
  go_wp2_with fail
  refine (HC3.out _ HR.out).mono ?_; rintro e W3 ⟨rfl, hrd, hkp⟩
  have HK := Lib.hid (step_kp HK.out hkp)
  have HBX := Lib.hid (step_box HBX.out hkp (by omega))
  have HB3 := Lib.hid (step_box HB3.out hkp (by omega))
  have HR := Lib.hid hrd
  clear hrd hkp
  have t : W3.cell? ⟨W.heap.size + 1, 2, none⟩ = some (.int .u64 0) := HB3.out.cell 2
  have tz : W3.frozen? ⟨W.heap.size + 1, 2, none⟩ = false := HB3.out.frozen 2
  go_upto_region 5 with fail
  have HR := Lib.hid (rr_setB (B := W.heap.size + 1) (j := 2) HR.out (by omega) (.int .u64 (x3 : Int)))
  have HK := Lib.hid (kp_set (B := W.heap.size + 1) (j := 2) HK.out (by omega) (.int .u64 (x3 : Int)))
  have HBX := Lib.hid (step_box HBX.out (KP.set1 W3 (W.heap.size + 1) 2 (.int .u64 (x3 : Int))) (by omega))
  have HB3 := Lib.hid (show BoxN _ _ #[.string ⟨x1.toArray⟩, .string ⟨x2.toArray⟩, .int .u64 (x3 : Int), .int .u64 0, .int .i64 0, .int .i64 0, .int .i64 0, .bool false] from HB3.out.set 2 (.int .u64 (x3 : Int)))
  obtain ⟨V3, hV3⟩ : ∃ W', W3.setCell ⟨W.heap.size + 1, 2, none⟩ (.int .u64 (x3 : Int)) = W' := ⟨_, rfl⟩
  rw [hV3] at HR HK HBX HB3 ⊢
  clear hV3
  clear t tz
  go_wp2_with fail
  refine (HC4.out _ HR.out).mono ?_; rintro e W4 ⟨rfl, hrd, hkp⟩
  have HK := Lib.hid (step_kp HK.out hkp)
  have HBX := Lib.hid (step_box HBX.out hkp (by omega))
  have HB3 := Lib.hid (step_box HB3.out hkp (by omega))
  have HR := Lib.hid hrd
  clear hrd hkp
  have t : W4.cell? ⟨W.heap.size + 1, 3, none⟩ = some (.int .u64 0) := HB3.out.cell 3
  have tz : W4.frozen? ⟨W.heap.size + 1, 3, none⟩ = false := HB3.out.frozen 3
  go_upto_region 6 with fail
  have HR := Lib.hid (rr_setB (B := W.heap.size + 1) (j := 3) HR.out (by omega) (.int .u64 (x4 : Int)))
  have HK := Lib.hid (kp_set (B := W.heap.size + 1) (j := 3) HK.out (by omega) (.int .u64 (x4 : Int)))
  have HBX := Lib.hid (step_box HBX.out (KP.set1 W4 (W.heap.size + 1) 3 (.int .u64 (x4 : Int))) (by omega))
  have HB3 := Lib.hid (show BoxN _ _ #[.string ⟨x1.toArray⟩, .string ⟨x2.toArray⟩, .int .u64 (x3 : Int), .int .u64 (x4 : Int), .int .i64 0, .int .i64 0, .int .i64 0, .bool false] from HB3.out.set 3 (.int .u64 (x4 : Int)))
  obtain ⟨V4, hV4⟩ : ∃ W', W4.setCell ⟨W.heap.size + 1, 3, none⟩ (.int .u64 (x4 : Int)) = W' := ⟨_, rfl⟩
  rw [hV4] at HR HK HBX HB3 ⊢
  clear hV4
  clear t tz
  go_wp2_with fail
  refine (HC5.out _ HR.out).mono ?_; rintro e W5 ⟨rfl, hrd, hkp⟩
  have HK := Lib.hid (step_kp HK.out hkp)
  have HBX := Lib.hid (step_box HBX.out hkp (by omega))
  have HB3 := Lib.hid (step_box HB3.out hkp (by omega))
  have HR := Lib.hid hrd
  clear hrd hkp
  have t : W5.cell? ⟨W.heap.size + 1, 4, none⟩ = some (.int .i64 0) := HB3.out.cell 4
  have tz : W5.frozen? ⟨W.heap.size + 1, 4, none⟩ = false := HB3.out.frozen 4
  go_upto_region 7 with fail
  have HR := Lib.hid (rr_setB (B := W.heap.size + 1) (j := 4) HR.out (by omega) (.int .i64 (x5 : Int)))
  have HK := Lib.hid (kp_set (B := W.heap.size + 1) (j := 4) HK.out (by omega) (.int .i64 (x5 : Int)))
  have HBX := Lib.hid (step_box HBX.out (KP.set1 W5 (W.heap.size + 1) 4 (.int .i64 (x5 : Int))) (by omega))
  have HB3 := Lib.hid (show BoxN _ _ #[.string ⟨x1.toArray⟩, .string ⟨x2.toArray⟩, .int .u64 (x3 : Int), .int .u64 (x4 : Int), .int .i64 (x5 : Int), .int .i64 0, .int .i64 0, .bool false] from HB3.out.set 4 (.int .i64 (x5 : Int)))
  obtain ⟨V5, hV5⟩ : ∃ W', W5.setCell ⟨W.heap.size + 1, 4, none⟩ (.int .i64 (x5 : Int)) = W' := ⟨_, rfl⟩
  rw [hV5] at HR HK HBX HB3 ⊢
  clear hV5
  clear t tz
  go_wp2_with fail
  refine (HC6.out _ HR.out).mono ?_; rintro e W6 ⟨rfl, hrd, hkp⟩
  have HK := Lib.hid (step_kp HK.out hkp)
  have HBX := Lib.hid (step_box HBX.out hkp (by omega))
  have HB3 := Lib.hid (step_box HB3.out hkp (by omega))
  have HR := Lib.hid hrd
  clear hrd hkp
  have t : W6.cell? ⟨W.heap.size + 1, 5, none⟩ = some (.int .i64 0) := HB3.out.cell 5
  have tz : W6.frozen? ⟨W.heap.size + 1, 5, none⟩ = false := HB3.out.frozen 5
  go_upto_region 8 with fail
  have HR := Lib.hid (rr_setB (B := W.heap.size + 1) (j := 5) HR.out (by omega) (.int .i64 (x6 : Int)))
  have HK := Lib.hid (kp_set (B := W.heap.size + 1) (j := 5) HK.out (by omega) (.int .i64 (x6 : Int)))
  have HBX := Lib.hid (step_box HBX.out (KP.set1 W6 (W.heap.size + 1) 5 (.int .i64 (x6 : Int))) (by omega))
  have HB3 := Lib.hid (show BoxN _ _ #[.string ⟨x1.toArray⟩, .string ⟨x2.toArray⟩, .int .u64 (x3 : Int), .int .u64 (x4 : Int), .int .i64 (x5 : Int), .int .i64 (x6 : Int), .int .i64 0, .bool false] from HB3.out.set 5 (.int .i64 (x6 : Int)))
  obtain ⟨V6, hV6⟩ : ∃ W', W6.setCell ⟨W.heap.size + 1, 5, none⟩ (.int .i64 (x6 : Int)) = W' := ⟨_, rfl⟩
  rw [hV6] at HR HK HBX HB3 ⊢
  clear hV6
  clear t tz
  go_wp2_with fail
  refine (HC7.out _ HR.out).mono ?_; rintro e W7 ⟨rfl, hrd, hkp⟩
  have HK := Lib.hid (step_kp HK.out hkp)
  have HBX := Lib.hid (step_box HBX.out hkp (by omega))
  have HB3 := Lib.hid (step_box HB3.out hkp (by omega))
  have HR := Lib.hid hrd
  clear hrd hkp
  have t : W7.cell? ⟨W.heap.size + 1, 6, none⟩ = some (.int .i64 0) := HB3.out.cell 6
  have tz : W7.frozen? ⟨W.heap.size + 1, 6, none⟩ = false := HB3.out.frozen 6
  go_upto_region 9 with fail
  have HR := Lib.hid (rr_setB (B := W.heap.size + 1) (j := 6) HR.out (by omega) (.int .i64 (x7 : Int)))
  have HK := Lib.hid (kp_set (B := W.heap.size + 1) (j := 6) HK.out (by omega) (.int .i64 (x7 : Int)))
  have HBX := Lib.hid (step_box HBX.out (KP.set1 W7 (W.heap.size + 1) 6 (.int .i64 (x7 : Int))) (by omega))
  have HB3 := Lib.hid (show BoxN _ _ #[.string ⟨x1.toArray⟩, .string ⟨x2.toArray⟩, .int .u64 (x3 : Int), .int .u64 (x4 : Int), .int .i64 (x5 : Int), .int .i64 (x6 : Int), .int .i64 (x7 : Int), .bool false] from HB3.out.set 6 (.int .i64 (x7 : Int)))
  obtain ⟨V7, hV7⟩ : ∃ W', W7.setCell ⟨W.heap.size + 1, 6, none⟩ (.int .i64 (x7 : Int)) = W' := ⟨_, rfl⟩
  rw [hV7] at HR HK HBX HB3 ⊢
  clear hV7
  clear t tz
  go_wp2_with fail
  refine (HC8.out _ HR.out).mono ?_; rintro e W8 ⟨rfl, hrd, hkp⟩
  have HK := Lib.hid (step_kp HK.out hkp)
  have HBX := Lib.hid (step_box HBX.out hkp (by omega))
  have HB3 := Lib.hid (step_box HB3.out hkp (by omega))
  have HR := Lib.hid hrd
  clear hrd hkp
  obtain ⟨k0, hk0, hk1, ra, rc, hbx, -, -⟩ := HR.out.box
  have r2 : W8.cell? ⟨R, 2, none⟩ = some (.int .i64 s8.wrong) := hbx.cell 2
  have r2z : W8.frozen? ⟨R, 2, none⟩ = false := hbx.frozen 2
  clear hbx hk0 hk1
  rw [HE8.out] at r2
  by_cases hc : e8 = 0 ∧ 1 < x8
  · have hsf := HSF.out
    rw [if_pos hc] at hsf
    obtain ⟨hc1, hc2⟩ := hc
    subst hc1
    have hc3 : (1 : Int) < (x8 : Int) := by omega
    have HSF := Lib.hid hsf
    clear hsf
    have HR := Lib.hid (by have h0 := HR.out.err 106; rw [HSF.out] at h0; exact h0 : RrAt base R (W8.setCell ⟨R, 2, none⟩ (.int .i64 106)) b sf)
    have HB3 := Lib.hid (step_box HB3.out (KP.set1 W8 R 2 (.int .i64 106)) (by omega))
    have HBX := Lib.hid (step_box HBX.out (KP.set1 W8 R 2 (.int .i64 106)) (by omega))
    have HK := Lib.hid (step_kp HK.out (KP.set1 W8 R 2 (.int .i64 106)))
    go_upto_region 12 with fail
    obtain ⟨W9, hW9⟩ : ∃ W9, W8.setCell ⟨R, 2, none⟩ (.int .i64 106) = W9 := ⟨_, rfl⟩
    rw [hW9] at HR HB3 HBX HK ⊢
    clear hW9 r2 r2z
    have t : W9.cell? ⟨W.heap.size + 1, 7, none⟩ = some (.bool false) := HB3.out.cell 7
    have tz : W9.frozen? ⟨W.heap.size + 1, 7, none⟩ = false := HB3.out.frozen 7
    go_upto_region 13 with fail
    rw [HBE.out]
    have HR := Lib.hid (rr_setB (B := W.heap.size + 1) (j := 7) HR.out (by omega) (.bool bf))
    have HK := Lib.hid (kp_set (B := W.heap.size + 1) (j := 7) HK.out (by omega) (.bool bf))
    have HBX := Lib.hid (step_box HBX.out (KP.set1 W9 (W.heap.size + 1) 7 (.bool bf)) (by omega))
    have HB3 := Lib.hid (show BoxN _ _ #[.string ⟨x1.toArray⟩, .string ⟨x2.toArray⟩, .int .u64 (x3 : Int), .int .u64 (x4 : Int), .int .i64 (x5 : Int), .int .i64 (x6 : Int), .int .i64 (x7 : Int), .bool bf] from HB3.out.set 7 (.bool bf))
    obtain ⟨W10, hW10⟩ : ∃ W', W9.setCell ⟨W.heap.size + 1, 7, none⟩ (.bool bf) = W' := ⟨_, rfl⟩
    rw [hW10] at HR HK HBX HB3 ⊢
    clear hW10
    clear t tz
    have y0 : W10.cell? ⟨W.heap.size + 1, 0, none⟩ = some (.string ⟨x1.toArray⟩) := HB3.out.cell 0
    have y1 : W10.cell? ⟨W.heap.size + 1, 1, none⟩ = some (.string ⟨x2.toArray⟩) := HB3.out.cell 1
    have y2 : W10.cell? ⟨W.heap.size + 1, 2, none⟩ = some (.int .u64 (x3 : Int)) := HB3.out.cell 2
    have y3 : W10.cell? ⟨W.heap.size + 1, 3, none⟩ = some (.int .u64 (x4 : Int)) := HB3.out.cell 3
    have y4 : W10.cell? ⟨W.heap.size + 1, 4, none⟩ = some (.int .i64 (x5 : Int)) := HB3.out.cell 4
    have y5 : W10.cell? ⟨W.heap.size + 1, 5, none⟩ = some (.int .i64 (x6 : Int)) := HB3.out.cell 5
    have y6 : W10.cell? ⟨W.heap.size + 1, 6, none⟩ = some (.int .i64 (x7 : Int)) := HB3.out.cell 6
    have y7 : W10.cell? ⟨W.heap.size + 1, 7, none⟩ = some (.bool bf) := HB3.out.cell 7
    have c0 : W10.cell? ⟨W.heap.size, 0, none⟩ = some (.string ⟨#[]⟩) := HBX.out.cell 0
    have z0 : W10.frozen? ⟨W.heap.size, 0, none⟩ = false := HBX.out.frozen 0
    have c1 : W10.cell? ⟨W.heap.size, 1, none⟩ = some (.string ⟨#[]⟩) := HBX.out.cell 1
    have z1 : W10.frozen? ⟨W.heap.size, 1, none⟩ = false := HBX.out.frozen 1
    have c2 : W10.cell? ⟨W.heap.size, 2, none⟩ = some (.int .u64 0) := HBX.out.cell 2
    have z2 : W10.frozen? ⟨W.heap.size, 2, none⟩ = false := HBX.out.frozen 2
    have c3 : W10.cell? ⟨W.heap.size, 3, none⟩ = some (.int .u64 0) := HBX.out.cell 3
    have z3 : W10.frozen? ⟨W.heap.size, 3, none⟩ = false := HBX.out.frozen 3
    have c4 : W10.cell? ⟨W.heap.size, 4, none⟩ = some (.int .i64 0) := HBX.out.cell 4
    have z4 : W10.frozen? ⟨W.heap.size, 4, none⟩ = false := HBX.out.frozen 4
    have c5 : W10.cell? ⟨W.heap.size, 5, none⟩ = some (.int .i64 0) := HBX.out.cell 5
    have z5 : W10.frozen? ⟨W.heap.size, 5, none⟩ = false := HBX.out.frozen 5
    have c6 : W10.cell? ⟨W.heap.size, 6, none⟩ = some (.int .i64 0) := HBX.out.cell 6
    have z6 : W10.frozen? ⟨W.heap.size, 6, none⟩ = false := HBX.out.frozen 6
    have c7 : W10.cell? ⟨W.heap.size, 7, none⟩ = some (.bool false) := HBX.out.cell 7
    have z7 : W10.frozen? ⟨W.heap.size, 7, none⟩ = false := HBX.out.frozen 7
    go_wp2_with fail
    have hbx : BoxN ((((((((W10.setCell ⟨W.heap.size, 0, none⟩ (.string ⟨x1.toArray⟩)).setCell ⟨W.heap.size, 1, none⟩ (.string ⟨x2.toArray⟩)).setCell ⟨W.heap.size, 2, none⟩ (.int .u64 (x3 : Int))).setCell ⟨W.heap.size, 3, none⟩ (.int .u64 (x4 : Int))).setCell ⟨W.heap.size, 4, none⟩ (.int .i64 (x5 : Int))).setCell ⟨W.heap.size, 5, none⟩ (.int .i64 (x6 : Int))).setCell ⟨W.heap.size, 6, none⟩ (.int .i64 (x7 : Int))).setCell ⟨W.heap.size, 7, none⟩ (.bool bf)) W.heap.size #[.string ⟨x1.toArray⟩, .string ⟨x2.toArray⟩, .int .u64 (x3 : Int), .int .u64 (x4 : Int), .int .i64 (x5 : Int), .int .i64 (x6 : Int), .int .i64 (x7 : Int), .bool bf] := ((((((((HBX.out.set 0 (.string ⟨x1.toArray⟩)).set 1 (.string ⟨x2.toArray⟩)).set 2 (.int .u64 (x3 : Int))).set 3 (.int .u64 (x4 : Int))).set 4 (.int .i64 (x5 : Int))).set 5 (.int .i64 (x6 : Int))).set 6 (.int .i64 (x7 : Int))).set 7 (.bool bf))
    have HRF := Lib.hid (show RrAt base R ((((((((W10.setCell ⟨W.heap.size, 0, none⟩ (.string ⟨x1.toArray⟩)).setCell ⟨W.heap.size, 1, none⟩ (.string ⟨x2.toArray⟩)).setCell ⟨W.heap.size, 2, none⟩ (.int .u64 (x3 : Int))).setCell ⟨W.heap.size, 3, none⟩ (.int .u64 (x4 : Int))).setCell ⟨W.heap.size, 4, none⟩ (.int .i64 (x5 : Int))).setCell ⟨W.heap.size, 5, none⟩ (.int .i64 (x6 : Int))).setCell ⟨W.heap.size, 6, none⟩ (.int .i64 (x7 : Int))).setCell ⟨W.heap.size, 7, none⟩ (.bool bf)) b sf from (rr_setB (B := W.heap.size) (j := 7) (rr_setB (B := W.heap.size) (j := 6) (rr_setB (B := W.heap.size) (j := 5) (rr_setB (B := W.heap.size) (j := 4) (rr_setB (B := W.heap.size) (j := 3) (rr_setB (B := W.heap.size) (j := 2) (rr_setB (B := W.heap.size) (j := 1) (rr_setB (B := W.heap.size) (j := 0) HR.out hlt (.string ⟨x1.toArray⟩)) hlt (.string ⟨x2.toArray⟩)) hlt (.int .u64 (x3 : Int))) hlt (.int .u64 (x4 : Int))) hlt (.int .i64 (x5 : Int))) hlt (.int .i64 (x6 : Int))) hlt (.int .i64 (x7 : Int))) hlt (.bool bf)))
    have HKF := Lib.hid (show KP W.heap.size (· = R) W ((((((((W10.setCell ⟨W.heap.size, 0, none⟩ (.string ⟨x1.toArray⟩)).setCell ⟨W.heap.size, 1, none⟩ (.string ⟨x2.toArray⟩)).setCell ⟨W.heap.size, 2, none⟩ (.int .u64 (x3 : Int))).setCell ⟨W.heap.size, 3, none⟩ (.int .u64 (x4 : Int))).setCell ⟨W.heap.size, 4, none⟩ (.int .i64 (x5 : Int))).setCell ⟨W.heap.size, 5, none⟩ (.int .i64 (x6 : Int))).setCell ⟨W.heap.size, 6, none⟩ (.int .i64 (x7 : Int))).setCell ⟨W.heap.size, 7, none⟩ (.bool bf)) from (kp_set (B := W.heap.size) (j := 7) (kp_set (B := W.heap.size) (j := 6) (kp_set (B := W.heap.size) (j := 5) (kp_set (B := W.heap.size) (j := 4) (kp_set (B := W.heap.size) (j := 3) (kp_set (B := W.heap.size) (j := 2) (kp_set (B := W.heap.size) (j := 1) (kp_set (B := W.heap.size) (j := 0) HK.out (Nat.le_refl _) (.string ⟨x1.toArray⟩)) (Nat.le_refl _) (.string ⟨x2.toArray⟩)) (Nat.le_refl _) (.int .u64 (x3 : Int))) (Nat.le_refl _) (.int .u64 (x4 : Int))) (Nat.le_refl _) (.int .i64 (x5 : Int))) (Nat.le_refl _) (.int .i64 (x6 : Int))) (Nat.le_refl _) (.int .i64 (x7 : Int))) (Nat.le_refl _) (.bool bf)))
    obtain ⟨WF, hWF⟩ : ∃ W', ((((((((W10.setCell ⟨W.heap.size, 0, none⟩ (.string ⟨x1.toArray⟩)).setCell ⟨W.heap.size, 1, none⟩ (.string ⟨x2.toArray⟩)).setCell ⟨W.heap.size, 2, none⟩ (.int .u64 (x3 : Int))).setCell ⟨W.heap.size, 3, none⟩ (.int .u64 (x4 : Int))).setCell ⟨W.heap.size, 4, none⟩ (.int .i64 (x5 : Int))).setCell ⟨W.heap.size, 5, none⟩ (.int .i64 (x6 : Int))).setCell ⟨W.heap.size, 6, none⟩ (.int .i64 (x7 : Int))).setCell ⟨W.heap.size, 7, none⟩ (.bool bf)) = W' := ⟨_, rfl⟩
    rw [hWF] at hbx HRF HKF ⊢
    clear hWF
    refine bodyPost_ret (v := .agg #[.string ⟨x1.toArray⟩, .string ⟨x2.toArray⟩, .int .u64 (x3 : Int), .int .u64 (x4 : Int), .int .i64 (x5 : Int), .int .i64 (x6 : Int), .int .i64 (x7 : Int), .bool bf]) ?_ rfl ⟨rfl, HRF.out, HKF.out⟩
    have q0 : WF.cell? ⟨W.heap.size, 0, none⟩ = some (.string ⟨x1.toArray⟩) := hbx.cell 0
    have q1 : WF.cell? ⟨W.heap.size, 1, none⟩ = some (.string ⟨x2.toArray⟩) := hbx.cell 1
    have q2 : WF.cell? ⟨W.heap.size, 2, none⟩ = some (.int .u64 (x3 : Int)) := hbx.cell 2
    have q3 : WF.cell? ⟨W.heap.size, 3, none⟩ = some (.int .u64 (x4 : Int)) := hbx.cell 3
    have q4 : WF.cell? ⟨W.heap.size, 4, none⟩ = some (.int .i64 (x5 : Int)) := hbx.cell 4
    have q5 : WF.cell? ⟨W.heap.size, 5, none⟩ = some (.int .i64 (x6 : Int)) := hbx.cell 5
    have q6 : WF.cell? ⟨W.heap.size, 6, none⟩ = some (.int .i64 (x7 : Int)) := hbx.cell 6
    have q7 : WF.cell? ⟨W.heap.size, 7, none⟩ = some (.bool bf) := hbx.cell 7
    simp [results, Try.results18, go_sem, q0, q1, q2, q3, q4, q5, q6, q7]
  · have hsf := HSF.out
    rw [if_neg hc] at hsf
    subst hsf
    by_cases hc0 : e8 = 0
    · have hcd : (x8 : Int) ≤ 1 := by
        have : ¬ 1 < x8 := fun q => hc ⟨hc0, q⟩
        omega
      subst hc0
      go_upto_region 12 with fail
      obtain ⟨W9, hW9⟩ : ∃ W9, W8 = W9 := ⟨_, rfl⟩
      rw [hW9] at HR HB3 HBX HK ⊢
      clear hW9 r2 r2z
      have t : W9.cell? ⟨W.heap.size + 1, 7, none⟩ = some (.bool false) := HB3.out.cell 7
      have tz : W9.frozen? ⟨W.heap.size + 1, 7, none⟩ = false := HB3.out.frozen 7
      go_upto_region 13 with fail
      rw [HBE.out]
      have HR := Lib.hid (rr_setB (B := W.heap.size + 1) (j := 7) HR.out (by omega) (.bool bf))
      have HK := Lib.hid (kp_set (B := W.heap.size + 1) (j := 7) HK.out (by omega) (.bool bf))
      have HBX := Lib.hid (step_box HBX.out (KP.set1 W9 (W.heap.size + 1) 7 (.bool bf)) (by omega))
      have HB3 := Lib.hid (show BoxN _ _ #[.string ⟨x1.toArray⟩, .string ⟨x2.toArray⟩, .int .u64 (x3 : Int), .int .u64 (x4 : Int), .int .i64 (x5 : Int), .int .i64 (x6 : Int), .int .i64 (x7 : Int), .bool bf] from HB3.out.set 7 (.bool bf))
      obtain ⟨W10, hW10⟩ : ∃ W', W9.setCell ⟨W.heap.size + 1, 7, none⟩ (.bool bf) = W' := ⟨_, rfl⟩
      rw [hW10] at HR HK HBX HB3 ⊢
      clear hW10
      clear t tz
      have y0 : W10.cell? ⟨W.heap.size + 1, 0, none⟩ = some (.string ⟨x1.toArray⟩) := HB3.out.cell 0
      have y1 : W10.cell? ⟨W.heap.size + 1, 1, none⟩ = some (.string ⟨x2.toArray⟩) := HB3.out.cell 1
      have y2 : W10.cell? ⟨W.heap.size + 1, 2, none⟩ = some (.int .u64 (x3 : Int)) := HB3.out.cell 2
      have y3 : W10.cell? ⟨W.heap.size + 1, 3, none⟩ = some (.int .u64 (x4 : Int)) := HB3.out.cell 3
      have y4 : W10.cell? ⟨W.heap.size + 1, 4, none⟩ = some (.int .i64 (x5 : Int)) := HB3.out.cell 4
      have y5 : W10.cell? ⟨W.heap.size + 1, 5, none⟩ = some (.int .i64 (x6 : Int)) := HB3.out.cell 5
      have y6 : W10.cell? ⟨W.heap.size + 1, 6, none⟩ = some (.int .i64 (x7 : Int)) := HB3.out.cell 6
      have y7 : W10.cell? ⟨W.heap.size + 1, 7, none⟩ = some (.bool bf) := HB3.out.cell 7
      have c0 : W10.cell? ⟨W.heap.size, 0, none⟩ = some (.string ⟨#[]⟩) := HBX.out.cell 0
      have z0 : W10.frozen? ⟨W.heap.size, 0, none⟩ = false := HBX.out.frozen 0
      have c1 : W10.cell? ⟨W.heap.size, 1, none⟩ = some (.string ⟨#[]⟩) := HBX.out.cell 1
      have z1 : W10.frozen? ⟨W.heap.size, 1, none⟩ = false := HBX.out.frozen 1
      have c2 : W10.cell? ⟨W.heap.size, 2, none⟩ = some (.int .u64 0) := HBX.out.cell 2
      have z2 : W10.frozen? ⟨W.heap.size, 2, none⟩ = false := HBX.out.frozen 2
      have c3 : W10.cell? ⟨W.heap.size, 3, none⟩ = some (.int .u64 0) := HBX.out.cell 3
      have z3 : W10.frozen? ⟨W.heap.size, 3, none⟩ = false := HBX.out.frozen 3
      have c4 : W10.cell? ⟨W.heap.size, 4, none⟩ = some (.int .i64 0) := HBX.out.cell 4
      have z4 : W10.frozen? ⟨W.heap.size, 4, none⟩ = false := HBX.out.frozen 4
      have c5 : W10.cell? ⟨W.heap.size, 5, none⟩ = some (.int .i64 0) := HBX.out.cell 5
      have z5 : W10.frozen? ⟨W.heap.size, 5, none⟩ = false := HBX.out.frozen 5
      have c6 : W10.cell? ⟨W.heap.size, 6, none⟩ = some (.int .i64 0) := HBX.out.cell 6
      have z6 : W10.frozen? ⟨W.heap.size, 6, none⟩ = false := HBX.out.frozen 6
      have c7 : W10.cell? ⟨W.heap.size, 7, none⟩ = some (.bool false) := HBX.out.cell 7
      have z7 : W10.frozen? ⟨W.heap.size, 7, none⟩ = false := HBX.out.frozen 7
      go_wp2_with fail
      have hbx : BoxN ((((((((W10.setCell ⟨W.heap.size, 0, none⟩ (.string ⟨x1.toArray⟩)).setCell ⟨W.heap.size, 1, none⟩ (.string ⟨x2.toArray⟩)).setCell ⟨W.heap.size, 2, none⟩ (.int .u64 (x3 : Int))).setCell ⟨W.heap.size, 3, none⟩ (.int .u64 (x4 : Int))).setCell ⟨W.heap.size, 4, none⟩ (.int .i64 (x5 : Int))).setCell ⟨W.heap.size, 5, none⟩ (.int .i64 (x6 : Int))).setCell ⟨W.heap.size, 6, none⟩ (.int .i64 (x7 : Int))).setCell ⟨W.heap.size, 7, none⟩ (.bool bf)) W.heap.size #[.string ⟨x1.toArray⟩, .string ⟨x2.toArray⟩, .int .u64 (x3 : Int), .int .u64 (x4 : Int), .int .i64 (x5 : Int), .int .i64 (x6 : Int), .int .i64 (x7 : Int), .bool bf] := ((((((((HBX.out.set 0 (.string ⟨x1.toArray⟩)).set 1 (.string ⟨x2.toArray⟩)).set 2 (.int .u64 (x3 : Int))).set 3 (.int .u64 (x4 : Int))).set 4 (.int .i64 (x5 : Int))).set 5 (.int .i64 (x6 : Int))).set 6 (.int .i64 (x7 : Int))).set 7 (.bool bf))
      have HRF := Lib.hid (show RrAt base R ((((((((W10.setCell ⟨W.heap.size, 0, none⟩ (.string ⟨x1.toArray⟩)).setCell ⟨W.heap.size, 1, none⟩ (.string ⟨x2.toArray⟩)).setCell ⟨W.heap.size, 2, none⟩ (.int .u64 (x3 : Int))).setCell ⟨W.heap.size, 3, none⟩ (.int .u64 (x4 : Int))).setCell ⟨W.heap.size, 4, none⟩ (.int .i64 (x5 : Int))).setCell ⟨W.heap.size, 5, none⟩ (.int .i64 (x6 : Int))).setCell ⟨W.heap.size, 6, none⟩ (.int .i64 (x7 : Int))).setCell ⟨W.heap.size, 7, none⟩ (.bool bf)) b s8 from (rr_setB (B := W.heap.size) (j := 7) (rr_setB (B := W.heap.size) (j := 6) (rr_setB (B := W.heap.size) (j := 5) (rr_setB (B := W.heap.size) (j := 4) (rr_setB (B := W.heap.size) (j := 3) (rr_setB (B := W.heap.size) (j := 2) (rr_setB (B := W.heap.size) (j := 1) (rr_setB (B := W.heap.size) (j := 0) HR.out hlt (.string ⟨x1.toArray⟩)) hlt (.string ⟨x2.toArray⟩)) hlt (.int .u64 (x3 : Int))) hlt (.int .u64 (x4 : Int))) hlt (.int .i64 (x5 : Int))) hlt (.int .i64 (x6 : Int))) hlt (.int .i64 (x7 : Int))) hlt (.bool bf)))
      have HKF := Lib.hid (show KP W.heap.size (· = R) W ((((((((W10.setCell ⟨W.heap.size, 0, none⟩ (.string ⟨x1.toArray⟩)).setCell ⟨W.heap.size, 1, none⟩ (.string ⟨x2.toArray⟩)).setCell ⟨W.heap.size, 2, none⟩ (.int .u64 (x3 : Int))).setCell ⟨W.heap.size, 3, none⟩ (.int .u64 (x4 : Int))).setCell ⟨W.heap.size, 4, none⟩ (.int .i64 (x5 : Int))).setCell ⟨W.heap.size, 5, none⟩ (.int .i64 (x6 : Int))).setCell ⟨W.heap.size, 6, none⟩ (.int .i64 (x7 : Int))).setCell ⟨W.heap.size, 7, none⟩ (.bool bf)) from (kp_set (B := W.heap.size) (j := 7) (kp_set (B := W.heap.size) (j := 6) (kp_set (B := W.heap.size) (j := 5) (kp_set (B := W.heap.size) (j := 4) (kp_set (B := W.heap.size) (j := 3) (kp_set (B := W.heap.size) (j := 2) (kp_set (B := W.heap.size) (j := 1) (kp_set (B := W.heap.size) (j := 0) HK.out (Nat.le_refl _) (.string ⟨x1.toArray⟩)) (Nat.le_refl _) (.string ⟨x2.toArray⟩)) (Nat.le_refl _) (.int .u64 (x3 : Int))) (Nat.le_refl _) (.int .u64 (x4 : Int))) (Nat.le_refl _) (.int .i64 (x5 : Int))) (Nat.le_refl _) (.int .i64 (x6 : Int))) (Nat.le_refl _) (.int .i64 (x7 : Int))) (Nat.le_refl _) (.bool bf)))
      obtain ⟨WF, hWF⟩ : ∃ W', ((((((((W10.setCell ⟨W.heap.size, 0, none⟩ (.string ⟨x1.toArray⟩)).setCell ⟨W.heap.size, 1, none⟩ (.string ⟨x2.toArray⟩)).setCell ⟨W.heap.size, 2, none⟩ (.int .u64 (x3 : Int))).setCell ⟨W.heap.size, 3, none⟩ (.int .u64 (x4 : Int))).setCell ⟨W.heap.size, 4, none⟩ (.int .i64 (x5 : Int))).setCell ⟨W.heap.size, 5, none⟩ (.int .i64 (x6 : Int))).setCell ⟨W.heap.size, 6, none⟩ (.int .i64 (x7 : Int))).setCell ⟨W.heap.size, 7, none⟩ (.bool bf)) = W' := ⟨_, rfl⟩
      rw [hWF] at hbx HRF HKF ⊢
      clear hWF
      refine bodyPost_ret (v := .agg #[.string ⟨x1.toArray⟩, .string ⟨x2.toArray⟩, .int .u64 (x3 : Int), .int .u64 (x4 : Int), .int .i64 (x5 : Int), .int .i64 (x6 : Int), .int .i64 (x7 : Int), .bool bf]) ?_ rfl ⟨rfl, HRF.out, HKF.out⟩
      have q0 : WF.cell? ⟨W.heap.size, 0, none⟩ = some (.string ⟨x1.toArray⟩) := hbx.cell 0
      have q1 : WF.cell? ⟨W.heap.size, 1, none⟩ = some (.string ⟨x2.toArray⟩) := hbx.cell 1
      have q2 : WF.cell? ⟨W.heap.size, 2, none⟩ = some (.int .u64 (x3 : Int)) := hbx.cell 2
      have q3 : WF.cell? ⟨W.heap.size, 3, none⟩ = some (.int .u64 (x4 : Int)) := hbx.cell 3
      have q4 : WF.cell? ⟨W.heap.size, 4, none⟩ = some (.int .i64 (x5 : Int)) := hbx.cell 4
      have q5 : WF.cell? ⟨W.heap.size, 5, none⟩ = some (.int .i64 (x6 : Int)) := hbx.cell 5
      have q6 : WF.cell? ⟨W.heap.size, 6, none⟩ = some (.int .i64 (x7 : Int)) := hbx.cell 6
      have q7 : WF.cell? ⟨W.heap.size, 7, none⟩ = some (.bool bf) := hbx.cell 7
      simp [results, Try.results18, go_sem, q0, q1, q2, q3, q4, q5, q6, q7]
    · go_upto_region 12 with fail
      obtain ⟨W9, hW9⟩ : ∃ W9, W8 = W9 := ⟨_, rfl⟩
      rw [hW9] at HR HB3 HBX HK ⊢
      clear hW9 r2 r2z
      have t : W9.cell? ⟨W.heap.size + 1, 7, none⟩ = some (.bool false) := HB3.out.cell 7
      have tz : W9.frozen? ⟨W.heap.size + 1, 7, none⟩ = false := HB3.out.frozen 7
      go_upto_region 13 with fail
      rw [HBE.out]
      have HR := Lib.hid (rr_setB (B := W.heap.size + 1) (j := 7) HR.out (by omega) (.bool bf))
      have HK := Lib.hid (kp_set (B := W.heap.size + 1) (j := 7) HK.out (by omega) (.bool bf))
      have HBX := Lib.hid (step_box HBX.out (KP.set1 W9 (W.heap.size + 1) 7 (.bool bf)) (by omega))
      have HB3 := Lib.hid (show BoxN _ _ #[.string ⟨x1.toArray⟩, .string ⟨x2.toArray⟩, .int .u64 (x3 : Int), .int .u64 (x4 : Int), .int .i64 (x5 : Int), .int .i64 (x6 : Int), .int .i64 (x7 : Int), .bool bf] from HB3.out.set 7 (.bool bf))
      obtain ⟨W10, hW10⟩ : ∃ W', W9.setCell ⟨W.heap.size + 1, 7, none⟩ (.bool bf) = W' := ⟨_, rfl⟩
      rw [hW10] at HR HK HBX HB3 ⊢
      clear hW10
      clear t tz
      have y0 : W10.cell? ⟨W.heap.size + 1, 0, none⟩ = some (.string ⟨x1.toArray⟩) := HB3.out.cell 0
      have y1 : W10.cell? ⟨W.heap.size + 1, 1, none⟩ = some (.string ⟨x2.toArray⟩) := HB3.out.cell 1
      have y2 : W10.cell? ⟨W.heap.size + 1, 2, none⟩ = some (.int .u64 (x3 : Int)) := HB3.out.cell 2
      have y3 : W10.cell? ⟨W.heap.size + 1, 3, none⟩ = some (.int .u64 (x4 : Int)) := HB3.out.cell 3
      have y4 : W10.cell? ⟨W.heap.size + 1, 4, none⟩ = some (.int .i64 (x5 : Int)) := HB3.out.cell 4
      have y5 : W10.cell? ⟨W.heap.size + 1, 5, none⟩ = some (.int .i64 (x6 : Int)) := HB3.out.cell 5
      have y6 : W10.cell? ⟨W.heap.size + 1, 6, none⟩ = some (.int .i64 (x7 : Int)) := HB3.out.cell 6
      have y7 : W10.cell? ⟨W.heap.size + 1, 7, none⟩ = some (.bool bf) := HB3.out.cell 7
      have c0 : W10.cell? ⟨W.heap.size, 0, none⟩ = some (.string ⟨#[]⟩) := HBX.out.cell 0
      have z0 : W10.frozen? ⟨W.heap.size, 0, none⟩ = false := HBX.out.frozen 0
      have c1 : W10.cell? ⟨W.heap.size, 1, none⟩ = some (.string ⟨#[]⟩) := HBX.out.cell 1
      have z1 : W10.frozen? ⟨W.heap.size, 1, none⟩ = false := HBX.out.frozen 1
      have c2 : W10.cell? ⟨W.heap.size, 2, none⟩ = some (.int .u64 0) := HBX.out.cell 2
      have z2 : W10.frozen? ⟨W.heap.size, 2, none⟩ = false := HBX.out.frozen 2
      have c3 : W10.cell? ⟨W.heap.size, 3, none⟩ = some (.int .u64 0) := HBX.out.cell 3
      have z3 : W10.frozen? ⟨W.heap.size, 3, none⟩ = false := HBX.out.frozen 3
      have c4 : W10.cell? ⟨W.heap.size, 4, none⟩ = some (.int .i64 0) := HBX.out.cell 4
      have z4 : W10.frozen? ⟨W.heap.size, 4, none⟩ = false := HBX.out.frozen 4
      have c5 : W10.cell? ⟨W.heap.size, 5, none⟩ = some (.int .i64 0) := HBX.out.cell 5
      have z5 : W10.frozen? ⟨W.heap.size, 5, none⟩ = false := HBX.out.frozen 5
      have c6 : W10.cell? ⟨W.heap.size, 6, none⟩ = some (.int .i64 0) := HBX.out.cell 6
      have z6 : W10.frozen? ⟨W.heap.size, 6, none⟩ = false := HBX.out.frozen 6
      have c7 : W10.cell? ⟨W.heap.size, 7, none⟩ = some (.bool false) := HBX.out.cell 7
      have z7 : W10.frozen? ⟨W.heap.size, 7, none⟩ = false := HBX.out.frozen 7
      go_wp2_with fail
      have hbx : BoxN ((((((((W10.setCell ⟨W.heap.size, 0, none⟩ (.string ⟨x1.toArray⟩)).setCell ⟨W.heap.size, 1, none⟩ (.string ⟨x2.toArray⟩)).setCell ⟨W.heap.size, 2, none⟩ (.int .u64 (x3 : Int))).setCell ⟨W.heap.size, 3, none⟩ (.int .u64 (x4 : Int))).setCell ⟨W.heap.size, 4, none⟩ (.int .i64 (x5 : Int))).setCell ⟨W.heap.size, 5, none⟩ (.int .i64 (x6 : Int))).setCell ⟨W.heap.size, 6, none⟩ (.int .i64 (x7 : Int))).setCell ⟨W.heap.size, 7, none⟩ (.bool bf)) W.heap.size #[.string ⟨x1.toArray⟩, .string ⟨x2.toArray⟩, .int .u64 (x3 : Int), .int .u64 (x4 : Int), .int .i64 (x5 : Int), .int .i64 (x6 : Int), .int .i64 (x7 : Int), .bool bf] := ((((((((HBX.out.set 0 (.string ⟨x1.toArray⟩)).set 1 (.string ⟨x2.toArray⟩)).set 2 (.int .u64 (x3 : Int))).set 3 (.int .u64 (x4 : Int))).set 4 (.int .i64 (x5 : Int))).set 5 (.int .i64 (x6 : Int))).set 6 (.int .i64 (x7 : Int))).set 7 (.bool bf))
      have HRF := Lib.hid (show RrAt base R ((((((((W10.setCell ⟨W.heap.size, 0, none⟩ (.string ⟨x1.toArray⟩)).setCell ⟨W.heap.size, 1, none⟩ (.string ⟨x2.toArray⟩)).setCell ⟨W.heap.size, 2, none⟩ (.int .u64 (x3 : Int))).setCell ⟨W.heap.size, 3, none⟩ (.int .u64 (x4 : Int))).setCell ⟨W.heap.size, 4, none⟩ (.int .i64 (x5 : Int))).setCell ⟨W.heap.size, 5, none⟩ (.int .i64 (x6 : Int))).setCell ⟨W.heap.size, 6, none⟩ (.int .i64 (x7 : Int))).setCell ⟨W.heap.size, 7, none⟩ (.bool bf)) b s8 from (rr_setB (B := W.heap.size) (j := 7) (rr_setB (B := W.heap.size) (j := 6) (rr_setB (B := W.heap.size) (j := 5) (rr_setB (B := W.heap.size) (j := 4) (rr_setB (B := W.heap.size) (j := 3) (rr_setB (B := W.heap.size) (j := 2) (rr_setB (B := W.heap.size) (j := 1) (rr_setB (B := W.heap.size) (j := 0) HR.out hlt (.string ⟨x1.toArray⟩)) hlt (.string ⟨x2.toArray⟩)) hlt (.int .u64 (x3 : Int))) hlt (.int .u64 (x4 : Int))) hlt (.int .i64 (x5 : Int))) hlt (.int .i64 (x6 : Int))) hlt (.int .i64 (x7 : Int))) hlt (.bool bf)))
      have HKF := Lib.hid (show KP W.heap.size (· = R) W ((((((((W10.setCell ⟨W.heap.size, 0, none⟩ (.string ⟨x1.toArray⟩)).setCell ⟨W.heap.size, 1, none⟩ (.string ⟨x2.toArray⟩)).setCell ⟨W.heap.size, 2, none⟩ (.int .u64 (x3 : Int))).setCell ⟨W.heap.size, 3, none⟩ (.int .u64 (x4 : Int))).setCell ⟨W.heap.size, 4, none⟩ (.int .i64 (x5 : Int))).setCell ⟨W.heap.size, 5, none⟩ (.int .i64 (x6 : Int))).setCell ⟨W.heap.size, 6, none⟩ (.int .i64 (x7 : Int))).setCell ⟨W.heap.size, 7, none⟩ (.bool bf)) from (kp_set (B := W.heap.size) (j := 7) (kp_set (B := W.heap.size) (j := 6) (kp_set (B := W.heap.size) (j := 5) (kp_set (B := W.heap.size) (j := 4) (kp_set (B := W.heap.size) (j := 3) (kp_set (B := W.heap.size) (j := 2) (kp_set (B := W.heap.size) (j := 1) (kp_set (B := W.heap.size) (j := 0) HK.out (Nat.le_refl _) (.string ⟨x1.toArray⟩)) (Nat.le_refl _) (.string ⟨x2.toArray⟩)) (Nat.le_refl _) (.int .u64 (x3 : Int))) (Nat.le_refl _) (.int .u64 (x4 : Int))) (Nat.le_refl _) (.int .i64 (x5 : Int))) (Nat.le_refl _) (.int .i64 (x6 : Int))) (Nat.le_refl _) (.int .i64 (x7 : Int))) (Nat.le_refl _) (.bool bf)))
      obtain ⟨WF, hWF⟩ : ∃ W', ((((((((W10.setCell ⟨W.heap.size, 0, none⟩ (.string ⟨x1.toArray⟩)).setCell ⟨W.heap.size, 1, none⟩ (.string ⟨x2.toArray⟩)).setCell ⟨W.heap.size, 2, none⟩ (.int .u64 (x3 : Int))).setCell ⟨W.heap.size, 3, none⟩ (.int .u64 (x4 : Int))).setCell ⟨W.heap.size, 4, none⟩ (.int .i64 (x5 : Int))).setCell ⟨W.heap.size, 5, none⟩ (.int .i64 (x6 : Int))).setCell ⟨W.heap.size, 6, none⟩ (.int .i64 (x7 : Int))).setCell ⟨W.heap.size, 7, none⟩ (.bool bf)) = W' := ⟨_, rfl⟩
      rw [hWF] at hbx HRF HKF ⊢
      clear hWF
      refine bodyPost_ret (v := .agg #[.string ⟨x1.toArray⟩, .string ⟨x2.toArray⟩, .int .u64 (x3 : Int), .int .u64 (x4 : Int), .int .i64 (x5 : Int), .int .i64 (x6 : Int), .int .i64 (x7 : Int), .bool bf]) ?_ rfl ⟨rfl, HRF.out, HKF.out⟩
      have q0 : WF.cell? ⟨W.heap.size, 0, none⟩ = some (.string ⟨x1.toArray⟩) := hbx.cell 0
      have q1 : WF.cell? ⟨W.heap.size, 1, none⟩ = some (.string ⟨x2.toArray⟩) := hbx.cell 1
      have q2 : WF.cell? ⟨W.heap.size, 2, none⟩ = some (.int .u64 (x3 : Int)) := hbx.cell 2
      have q3 : WF.cell? ⟨W.heap.size, 3, none⟩ = some (.int .u64 (x4 : Int)) := hbx.cell 3
      have q4 : WF.cell? ⟨W.heap.size, 4, none⟩ = some (.int .i64 (x5 : Int)) := hbx.cell 4
      have q5 : WF.cell? ⟨W.heap.size, 5, none⟩ = some (.int .i64 (x6 : Int)) := hbx.cell 5
      have q6 : WF.cell? ⟨W.heap.size, 6, none⟩ = some (.int .i64 (x7 : Int)) := hbx.cell 6
      have q7 : WF.cell? ⟨W.heap.size, 7, none⟩ = some (.bool bf) := hbx.cell 7
      simp [results, Try.results18, go_sem, q0, q1, q2, q3, q4, q5, q6, q7]
end Go.Proofs.Ytknldomgmogccaa
