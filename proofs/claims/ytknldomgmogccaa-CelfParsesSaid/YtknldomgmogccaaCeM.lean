/- What the reader reads of symbols and segments: contracts. -/
import Derived.Test.YtknldomgmogccaaCeL
import Derived.Deep.RegionHeld3
import Derived.Deep.Cut
import Derived.BigRegion
namespace Go.Proofs.Ytknldomgmogccaa
set_option linter.unusedVariables false
set_option linter.unusedSimpArgs false
open Go.Joins Go.ChangeShapes Go.WideShapes Go.ChangeAt Go.RowKit Go.Deep

def symP (s : St) : Sym × St :=
  let a := textP s; let b := textP a.2; let c := numP 4 b.2; let d := numP 4 c.2; let e := numP 1 d.2; let f := numP 1 e.2; let g := numP 1 f.2; let h := numP 1 g.2
  (⟨a.1, b.1, (c.1 : Int), (d.1 : Int), (e.1 : Int), (f.1 : Int), (g.1 : Int), decide ((h.1 : Int) = 1)⟩, if h.2.wrong = 0 ∧ 1 < h.1 then ⟨h.2.rest, 106⟩ else h.2)
set_option maxHeartbeats 4000000 in
set_option maxRecDepth 100000 in
theorem symbol_any (base R : Nat) (s : St) (W : World) (h : RdAt base R W s) :
    Calls Try.prog 43 #[.pointer (some ⟨R, 0, none⟩)] W fun e W' => e = .returned (.agg (symC (symP s).1).toArray) ∧ RdAt base R W' (symP s).2 ∧ KP W.heap.size (· = R) W W' := by
  have hlt := h.lt
  have HC1 := Lib.hid (fun W (hW : RdAt base R W s) => text_any base R s W hW)
  obtain ⟨⟨x1, s1⟩, hx1⟩ : ∃ x, textP s = x := ⟨_, rfl⟩
  rw [hx1] at HC1
  simp only [] at HC1
  have HC2 := Lib.hid (fun W (hW : RdAt base R W s1) => text_any base R s1 W hW)
  obtain ⟨⟨x2, s2⟩, hx2⟩ : ∃ x, textP s1 = x := ⟨_, rfl⟩
  rw [hx2] at HC2
  simp only [] at HC2
  have HC3 := Lib.hid (fun W (hW : RdAt base R W s2) => full_any base R s2 W hW)
  obtain ⟨⟨x3, s3⟩, hx3⟩ : ∃ x, numP 4 s2 = x := ⟨_, rfl⟩
  rw [hx3] at HC3
  simp only [] at HC3
  have HC4 := Lib.hid (fun W (hW : RdAt base R W s3) => full_any base R s3 W hW)
  obtain ⟨⟨x4, s4⟩, hx4⟩ : ∃ x, numP 4 s3 = x := ⟨_, rfl⟩
  rw [hx4] at HC4
  simp only [] at HC4
  have HC5 := Lib.hid (fun W (hW : RdAt base R W s4) => byte_any base R s4 W hW)
  have hlt5 := numP_lt 1 s4
  obtain ⟨⟨x5, s5⟩, hx5⟩ : ∃ x, numP 1 s4 = x := ⟨_, rfl⟩
  rw [hx5] at HC5 hlt5
  simp only [] at HC5 hlt5
  have HC6 := Lib.hid (fun W (hW : RdAt base R W s5) => byte_any base R s5 W hW)
  have hlt6 := numP_lt 1 s5
  obtain ⟨⟨x6, s6⟩, hx6⟩ : ∃ x, numP 1 s5 = x := ⟨_, rfl⟩
  rw [hx6] at HC6 hlt6
  simp only [] at HC6 hlt6
  have HC7 := Lib.hid (fun W (hW : RdAt base R W s6) => byte_any base R s6 W hW)
  have hlt7 := numP_lt 1 s6
  obtain ⟨⟨x7, s7⟩, hx7⟩ : ∃ x, numP 1 s6 = x := ⟨_, rfl⟩
  rw [hx7] at HC7 hlt7
  simp only [] at HC7 hlt7
  have HC8 := Lib.hid (fun W (hW : RdAt base R W s7) => byte_any base R s7 W hW)
  have hlt8 := numP_lt 1 s7
  obtain ⟨⟨x8, s8⟩, hx8⟩ : ∃ x, numP 1 s7 = x := ⟨_, rfl⟩
  rw [hx8] at HC8 hlt8
  simp only [] at HC8 hlt8
  have hsp : symP s = (⟨x1, x2, (x3 : Int), (x4 : Int), (x5 : Int), (x6 : Int), (x7 : Int), decide ((x8 : Int) = 1)⟩, if s8.wrong = 0 ∧ 1 < x8 then ⟨s8.rest, 106⟩ else s8) := by
    unfold symP
    simp only [hx1, hx2, hx3, hx4, hx5, hx6, hx7, hx8]
  rw [hsp]
  unfold symC
  simp only []
  obtain ⟨sf, hsf⟩ : ∃ sf, (if s8.wrong = 0 ∧ 1 < x8 then (⟨s8.rest, 106⟩ : St) else s8) = sf := ⟨_, rfl⟩
  obtain ⟨bf, hbf⟩ : ∃ bf, decide ((x8 : Int) = 1) = bf := ⟨_, rfl⟩
  rw [hsf, hbf]
  obtain ⟨e8, he8⟩ : ∃ e, s8.wrong = e := ⟨_, rfl⟩
  rw [he8] at hsf
  have HSF := Lib.hid hsf
  have HBF := Lib.hid hbf
  have HE8 := Lib.hid he8
  have H := Lib.hid h
  clear hsp h hsf hbf he8 hx1 hx2 hx3 hx4 hx5 hx6 hx7 hx8
  go_enter Try.func43, Try.ntmps43
  go_wp2_with fail
  refine (HC1.out _ (H.out.below (bAlloc (Below.refl _ _) _))).mono ?_; rintro e W1 ⟨rfl, hrd, hkp⟩
  have HK := Lib.hid (step_kp (kp_alloc W R _) hkp)
  have HBX := Lib.hid (step_box (BoxN.new W #[.string ⟨#[]⟩, .string ⟨#[]⟩, .int .u64 0, .int .u64 0, .int .i64 0, .int .i64 0, .int .i64 0, .bool false] 42) hkp (by omega))
  have HR := Lib.hid hrd
  clear hrd hkp
  go_wp2_with fail
  refine (HC2.out _ HR.out).mono ?_; rintro e W2 ⟨rfl, hrd, hkp⟩
  have HK := Lib.hid (step_kp HK.out hkp)
  have HBX := Lib.hid (step_box HBX.out hkp (by omega))
  have HR := Lib.hid hrd
  clear hrd hkp
  go_wp2_with fail
  refine (HC3.out _ HR.out).mono ?_; rintro e W3 ⟨rfl, hrd, hkp⟩
  have HK := Lib.hid (step_kp HK.out hkp)
  have HBX := Lib.hid (step_box HBX.out hkp (by omega))
  have HR := Lib.hid hrd
  clear hrd hkp
  go_wp2_with fail
  refine (HC4.out _ HR.out).mono ?_; rintro e W4 ⟨rfl, hrd, hkp⟩
  have HK := Lib.hid (step_kp HK.out hkp)
  have HBX := Lib.hid (step_box HBX.out hkp (by omega))
  have HR := Lib.hid hrd
  clear hrd hkp
  go_wp2_with fail
  refine (HC5.out _ HR.out).mono ?_; rintro e W5 ⟨rfl, hrd, hkp⟩
  have HK := Lib.hid (step_kp HK.out hkp)
  have HBX := Lib.hid (step_box HBX.out hkp (by omega))
  have HR := Lib.hid hrd
  clear hrd hkp
  go_wp2_with fail
  refine (HC6.out _ HR.out).mono ?_; rintro e W6 ⟨rfl, hrd, hkp⟩
  have HK := Lib.hid (step_kp HK.out hkp)
  have HBX := Lib.hid (step_box HBX.out hkp (by omega))
  have HR := Lib.hid hrd
  clear hrd hkp
  go_wp2_with fail
  refine (HC7.out _ HR.out).mono ?_; rintro e W7 ⟨rfl, hrd, hkp⟩
  have HK := Lib.hid (step_kp HK.out hkp)
  have HBX := Lib.hid (step_box HBX.out hkp (by omega))
  have HR := Lib.hid hrd
  clear hrd hkp
  go_wp2_with fail
  have hB3 := HBX.out.lt
  have hk3 : KP W7.heap.size (· = R) W7 (W7.alloc (.cells #[.string ⟨x1.toArray⟩, .string ⟨x2.toArray⟩, .int .u64 (x3 : Int), .int .u64 (x4 : Int), .int .i64 (x5 : Int), .int .i64 (x6 : Int), .int .i64 (x7 : Int), .bool false] 42)) := kp_alloc W7 R _
  have HB3 := Lib.hid (BoxN.new W7 #[.string ⟨x1.toArray⟩, .string ⟨x2.toArray⟩, .int .u64 (x3 : Int), .int .u64 (x4 : Int), .int .i64 (x5 : Int), .int .i64 (x6 : Int), .int .i64 (x7 : Int), .bool false] 42)
  have HK := Lib.hid (step_kp HK.out hk3)
  have HBX := Lib.hid (step_box HBX.out hk3 (by omega))
  have HR := Lib.hid (HR.out.below (bAlloc (Below.refl _ _) (.cells #[.string ⟨x1.toArray⟩, .string ⟨x2.toArray⟩, .int .u64 (x3 : Int), .int .u64 (x4 : Int), .int .i64 (x5 : Int), .int .i64 (x6 : Int), .int .i64 (x7 : Int), .bool false] 42)))
  have hR7 := HK.out.size
  clear hk3
  refine (HC8.out _ HR.out).mono ?_; rintro e W8 ⟨rfl, hrd, hkp⟩
  have HK := Lib.hid (step_kp HK.out hkp)
  have HB3 := Lib.hid (step_box HB3.out hkp (by omega))
  have HBX := Lib.hid (step_box HBX.out hkp (by omega))
  have HR := Lib.hid hrd
  clear hrd hkp
  obtain ⟨ra, rc, hbx, -, -⟩ := HR.out.box
  have r1 : W8.cell? ⟨R, 1, none⟩ = some (.int .i64 s8.wrong) := hbx.cell 1
  have rz : W8.frozen? ⟨R, 1, none⟩ = false := hbx.frozen 1
  have hR8 := hbx.lt
  have t7 : W8.cell? ⟨W7.heap.size, 7, none⟩ = some (.bool false) := HB3.out.cell 7
  have t7z : W8.frozen? ⟨W7.heap.size, 7, none⟩ = false := HB3.out.frozen 7
  clear hbx
  rw [HE8.out] at r1
  by_cases hc : e8 = 0 ∧ 1 < x8
  · have hsf := HSF.out
    rw [if_pos hc] at hsf
    obtain ⟨hc1, hc2⟩ := hc
    subst hc1
    have hc3 : (1 : Int) < (x8 : Int) := by omega
    have hc4 : decide ((x8 : Int) = 1) = false := decide_eq_false (by omega)
    have HBE := Lib.hid (show ((x8 : Int) == 1) = bf from HBF.out)
    have hbf : false = bf := hc4.symm.trans HBF.out
    subst hbf
    clear hc4
    have HSF := Lib.hid hsf
    clear hsf
    have HR := Lib.hid (by have h0 := HR.out.err 106; rw [HSF.out] at h0; exact h0 : RdAt base R (W8.setCell ⟨R, 1, none⟩ (.int .i64 106)) sf)
    have HB3 := Lib.hid (step_box HB3.out (KP.set1 W8 R 1 (.int .i64 106)) (by omega))
    have HBX := Lib.hid (step_box HBX.out (KP.set1 W8 R 1 (.int .i64 106)) (by omega))
    have HK := Lib.hid (step_kp HK.out (KP.set1 W8 R 1 (.int .i64 106)))
    clear t7 t7z
    go_upto_region 5 with fail
    obtain ⟨W9, hW9⟩ : ∃ W9, W8.setCell ⟨R, 1, none⟩ (.int .i64 106) = W9 := ⟨_, rfl⟩
    rw [hW9] at HR HB3 HBX HK ⊢
    clear hW9 r1 rz
    have t7 : W9.cell? ⟨W7.heap.size, 7, none⟩ = some (.bool false) := HB3.out.cell 7
    have t7z : W9.frozen? ⟨W7.heap.size, 7, none⟩ = false := HB3.out.frozen 7
    go_upto_region 6 with fail
    rw [HBE.out]
    have HR := Lib.hid (rd_setB (B := W7.heap.size) (j := 7) HR.out (by omega) (.bool false))
    have HK := Lib.hid (kp_set (B := W7.heap.size) (j := 7) HK.out (by omega) (.bool false))
    have HBX := Lib.hid (step_box HBX.out (KP.set1 W9 W7.heap.size 7 (.bool false)) (by omega))
    have HB3 := Lib.hid (show BoxN _ _ #[.string ⟨x1.toArray⟩, .string ⟨x2.toArray⟩, .int .u64 (x3 : Int), .int .u64 (x4 : Int), .int .i64 (x5 : Int), .int .i64 (x6 : Int), .int .i64 (x7 : Int), .bool false] from HB3.out.set 7 (.bool false))
    obtain ⟨W10, hW10⟩ : ∃ W', W9.setCell ⟨W7.heap.size, 7, none⟩ (.bool false) = W' := ⟨_, rfl⟩
    rw [hW10] at HR HB3 HBX HK ⊢
    clear hW10 t7 t7z
    have y0 : W10.cell? ⟨W7.heap.size, 0, none⟩ = some (.string ⟨x1.toArray⟩) := HB3.out.cell 0
    have y1 : W10.cell? ⟨W7.heap.size, 1, none⟩ = some (.string ⟨x2.toArray⟩) := HB3.out.cell 1
    have y2 : W10.cell? ⟨W7.heap.size, 2, none⟩ = some (.int .u64 (x3 : Int)) := HB3.out.cell 2
    have y3 : W10.cell? ⟨W7.heap.size, 3, none⟩ = some (.int .u64 (x4 : Int)) := HB3.out.cell 3
    have y4 : W10.cell? ⟨W7.heap.size, 4, none⟩ = some (.int .i64 (x5 : Int)) := HB3.out.cell 4
    have y5 : W10.cell? ⟨W7.heap.size, 5, none⟩ = some (.int .i64 (x6 : Int)) := HB3.out.cell 5
    have y6 : W10.cell? ⟨W7.heap.size, 6, none⟩ = some (.int .i64 (x7 : Int)) := HB3.out.cell 6
    have y7 : W10.cell? ⟨W7.heap.size, 7, none⟩ = some (.bool false) := HB3.out.cell 7
    have c0 : W10.cell? ⟨W.heap.size, 0, none⟩ = some (.string ⟨#[]⟩) := HBX.out.cell 0
    have z0 : W10.frozen? ⟨W.heap.size, 0, none⟩ = false := HBX.out.frozen 0
    have c1 : W10.cell? ⟨W.heap.size, 1, none⟩ = some (.string ⟨#[]⟩) := HBX.out.cell 1
    have z1 : W10.frozen? ⟨W.heap.size, 1, none⟩ = false := HBX.out.frozen 1
    have c2 : W10.cell? ⟨W.heap.size, 2, none⟩ = some (.int .u64 0) := HBX.out.cell 2
    have z2 : W10.frozen? ⟨W.heap.size, 2, none⟩ = false := HBX.out.frozen 2
    have c3 : W10.cell? ⟨W.heap.size, 3, none⟩ = some (.int .u64 0) := HBX.out.cell 3
    have z3 : W10.frozen? ⟨W.heap.size, 3, none⟩ = false := HBX.out.frozen 3
    have c4 : W10.cell? ⟨W.heap.size, 4, none⟩ = some (.int .i64 0) := HBX.out.cell 4
    have z4 : W10.frozen? ⟨W.heap.size, 4, none⟩ = false := HBX.out.frozen 4
    have c5 : W10.cell? ⟨W.heap.size, 5, none⟩ = some (.int .i64 0) := HBX.out.cell 5
    have z5 : W10.frozen? ⟨W.heap.size, 5, none⟩ = false := HBX.out.frozen 5
    have c6 : W10.cell? ⟨W.heap.size, 6, none⟩ = some (.int .i64 0) := HBX.out.cell 6
    have z6 : W10.frozen? ⟨W.heap.size, 6, none⟩ = false := HBX.out.frozen 6
    have c7 : W10.cell? ⟨W.heap.size, 7, none⟩ = some (.bool false) := HBX.out.cell 7
    have z7 : W10.frozen? ⟨W.heap.size, 7, none⟩ = false := HBX.out.frozen 7
    go_wp2_with fail
    have hbx : BoxN ((((((((W10.setCell ⟨W.heap.size, 0, none⟩ (.string ⟨x1.toArray⟩)).setCell ⟨W.heap.size, 1, none⟩ (.string ⟨x2.toArray⟩)).setCell ⟨W.heap.size, 2, none⟩ (.int .u64 (x3 : Int))).setCell ⟨W.heap.size, 3, none⟩ (.int .u64 (x4 : Int))).setCell ⟨W.heap.size, 4, none⟩ (.int .i64 (x5 : Int))).setCell ⟨W.heap.size, 5, none⟩ (.int .i64 (x6 : Int))).setCell ⟨W.heap.size, 6, none⟩ (.int .i64 (x7 : Int))).setCell ⟨W.heap.size, 7, none⟩ (.bool false)) W.heap.size #[.string ⟨x1.toArray⟩, .string ⟨x2.toArray⟩, .int .u64 (x3 : Int), .int .u64 (x4 : Int), .int .i64 (x5 : Int), .int .i64 (x6 : Int), .int .i64 (x7 : Int), .bool false] := ((((((((HBX.out.set 0 (.string ⟨x1.toArray⟩)).set 1 (.string ⟨x2.toArray⟩)).set 2 (.int .u64 (x3 : Int))).set 3 (.int .u64 (x4 : Int))).set 4 (.int .i64 (x5 : Int))).set 5 (.int .i64 (x6 : Int))).set 6 (.int .i64 (x7 : Int))).set 7 (.bool false))
    have HRF := Lib.hid (show RdAt base R ((((((((W10.setCell ⟨W.heap.size, 0, none⟩ (.string ⟨x1.toArray⟩)).setCell ⟨W.heap.size, 1, none⟩ (.string ⟨x2.toArray⟩)).setCell ⟨W.heap.size, 2, none⟩ (.int .u64 (x3 : Int))).setCell ⟨W.heap.size, 3, none⟩ (.int .u64 (x4 : Int))).setCell ⟨W.heap.size, 4, none⟩ (.int .i64 (x5 : Int))).setCell ⟨W.heap.size, 5, none⟩ (.int .i64 (x6 : Int))).setCell ⟨W.heap.size, 6, none⟩ (.int .i64 (x7 : Int))).setCell ⟨W.heap.size, 7, none⟩ (.bool false)) sf from (rd_setB (B := W.heap.size) (j := 7) (rd_setB (B := W.heap.size) (j := 6) (rd_setB (B := W.heap.size) (j := 5) (rd_setB (B := W.heap.size) (j := 4) (rd_setB (B := W.heap.size) (j := 3) (rd_setB (B := W.heap.size) (j := 2) (rd_setB (B := W.heap.size) (j := 1) (rd_setB (B := W.heap.size) (j := 0) HR.out hlt (.string ⟨x1.toArray⟩)) hlt (.string ⟨x2.toArray⟩)) hlt (.int .u64 (x3 : Int))) hlt (.int .u64 (x4 : Int))) hlt (.int .i64 (x5 : Int))) hlt (.int .i64 (x6 : Int))) hlt (.int .i64 (x7 : Int))) hlt (.bool false)))
    have HKF := Lib.hid (show KP W.heap.size (· = R) W ((((((((W10.setCell ⟨W.heap.size, 0, none⟩ (.string ⟨x1.toArray⟩)).setCell ⟨W.heap.size, 1, none⟩ (.string ⟨x2.toArray⟩)).setCell ⟨W.heap.size, 2, none⟩ (.int .u64 (x3 : Int))).setCell ⟨W.heap.size, 3, none⟩ (.int .u64 (x4 : Int))).setCell ⟨W.heap.size, 4, none⟩ (.int .i64 (x5 : Int))).setCell ⟨W.heap.size, 5, none⟩ (.int .i64 (x6 : Int))).setCell ⟨W.heap.size, 6, none⟩ (.int .i64 (x7 : Int))).setCell ⟨W.heap.size, 7, none⟩ (.bool false)) from (kp_set (B := W.heap.size) (j := 7) (kp_set (B := W.heap.size) (j := 6) (kp_set (B := W.heap.size) (j := 5) (kp_set (B := W.heap.size) (j := 4) (kp_set (B := W.heap.size) (j := 3) (kp_set (B := W.heap.size) (j := 2) (kp_set (B := W.heap.size) (j := 1) (kp_set (B := W.heap.size) (j := 0) HK.out (Nat.le_refl _) (.string ⟨x1.toArray⟩)) (Nat.le_refl _) (.string ⟨x2.toArray⟩)) (Nat.le_refl _) (.int .u64 (x3 : Int))) (Nat.le_refl _) (.int .u64 (x4 : Int))) (Nat.le_refl _) (.int .i64 (x5 : Int))) (Nat.le_refl _) (.int .i64 (x6 : Int))) (Nat.le_refl _) (.int .i64 (x7 : Int))) (Nat.le_refl _) (.bool false)))
    obtain ⟨WF, hWF⟩ : ∃ W', ((((((((W10.setCell ⟨W.heap.size, 0, none⟩ (.string ⟨x1.toArray⟩)).setCell ⟨W.heap.size, 1, none⟩ (.string ⟨x2.toArray⟩)).setCell ⟨W.heap.size, 2, none⟩ (.int .u64 (x3 : Int))).setCell ⟨W.heap.size, 3, none⟩ (.int .u64 (x4 : Int))).setCell ⟨W.heap.size, 4, none⟩ (.int .i64 (x5 : Int))).setCell ⟨W.heap.size, 5, none⟩ (.int .i64 (x6 : Int))).setCell ⟨W.heap.size, 6, none⟩ (.int .i64 (x7 : Int))).setCell ⟨W.heap.size, 7, none⟩ (.bool false)) = W' := ⟨_, rfl⟩
    rw [hWF] at hbx HRF HKF ⊢
    clear hWF
    refine bodyPost_ret (v := .agg #[.string ⟨x1.toArray⟩, .string ⟨x2.toArray⟩, .int .u64 (x3 : Int), .int .u64 (x4 : Int), .int .i64 (x5 : Int), .int .i64 (x6 : Int), .int .i64 (x7 : Int), .bool false]) ?_ rfl ⟨rfl, HRF.out, HKF.out⟩
    have q0 : WF.cell? ⟨W.heap.size, 0, none⟩ = some (.string ⟨x1.toArray⟩) := hbx.cell 0
    have q1 : WF.cell? ⟨W.heap.size, 1, none⟩ = some (.string ⟨x2.toArray⟩) := hbx.cell 1
    have q2 : WF.cell? ⟨W.heap.size, 2, none⟩ = some (.int .u64 (x3 : Int)) := hbx.cell 2
    have q3 : WF.cell? ⟨W.heap.size, 3, none⟩ = some (.int .u64 (x4 : Int)) := hbx.cell 3
    have q4 : WF.cell? ⟨W.heap.size, 4, none⟩ = some (.int .i64 (x5 : Int)) := hbx.cell 4
    have q5 : WF.cell? ⟨W.heap.size, 5, none⟩ = some (.int .i64 (x6 : Int)) := hbx.cell 5
    have q6 : WF.cell? ⟨W.heap.size, 6, none⟩ = some (.int .i64 (x7 : Int)) := hbx.cell 6
    have q7 : WF.cell? ⟨W.heap.size, 7, none⟩ = some (.bool false) := hbx.cell 7
    simp [results, Try.results43, go_sem, q0, q1, q2, q3, q4, q5, q6, q7]
  · have hsf := HSF.out
    rw [if_neg hc] at hsf
    subst hsf
    have HBE := Lib.hid (show ((x8 : Int) == 1) = bf from HBF.out)
    clear t7 t7z
    by_cases hc0 : e8 = 0
    · have hcd : (x8 : Int) ≤ 1 := by
        have : ¬ 1 < x8 := fun q => hc ⟨hc0, q⟩
        omega
      subst hc0
      go_upto_region 5 with fail
      obtain ⟨W9, hW9⟩ : ∃ W9, W8 = W9 := ⟨_, rfl⟩
      rw [hW9] at HR HB3 HBX HK ⊢
      clear hW9 r1 rz
      have t7 : W9.cell? ⟨W7.heap.size, 7, none⟩ = some (.bool false) := HB3.out.cell 7
      have t7z : W9.frozen? ⟨W7.heap.size, 7, none⟩ = false := HB3.out.frozen 7
      go_upto_region 6 with fail
      rw [HBE.out]
      have HR := Lib.hid (rd_setB (B := W7.heap.size) (j := 7) HR.out (by omega) (.bool bf))
      have HK := Lib.hid (kp_set (B := W7.heap.size) (j := 7) HK.out (by omega) (.bool bf))
      have HBX := Lib.hid (step_box HBX.out (KP.set1 W9 W7.heap.size 7 (.bool bf)) (by omega))
      have HB3 := Lib.hid (show BoxN _ _ #[.string ⟨x1.toArray⟩, .string ⟨x2.toArray⟩, .int .u64 (x3 : Int), .int .u64 (x4 : Int), .int .i64 (x5 : Int), .int .i64 (x6 : Int), .int .i64 (x7 : Int), .bool bf] from HB3.out.set 7 (.bool bf))
      obtain ⟨W10, hW10⟩ : ∃ W', W9.setCell ⟨W7.heap.size, 7, none⟩ (.bool bf) = W' := ⟨_, rfl⟩
      rw [hW10] at HR HB3 HBX HK ⊢
      clear hW10 t7 t7z
      have y0 : W10.cell? ⟨W7.heap.size, 0, none⟩ = some (.string ⟨x1.toArray⟩) := HB3.out.cell 0
      have y1 : W10.cell? ⟨W7.heap.size, 1, none⟩ = some (.string ⟨x2.toArray⟩) := HB3.out.cell 1
      have y2 : W10.cell? ⟨W7.heap.size, 2, none⟩ = some (.int .u64 (x3 : Int)) := HB3.out.cell 2
      have y3 : W10.cell? ⟨W7.heap.size, 3, none⟩ = some (.int .u64 (x4 : Int)) := HB3.out.cell 3
      have y4 : W10.cell? ⟨W7.heap.size, 4, none⟩ = some (.int .i64 (x5 : Int)) := HB3.out.cell 4
      have y5 : W10.cell? ⟨W7.heap.size, 5, none⟩ = some (.int .i64 (x6 : Int)) := HB3.out.cell 5
      have y6 : W10.cell? ⟨W7.heap.size, 6, none⟩ = some (.int .i64 (x7 : Int)) := HB3.out.cell 6
      have y7 : W10.cell? ⟨W7.heap.size, 7, none⟩ = some (.bool bf) := HB3.out.cell 7
      have c0 : W10.cell? ⟨W.heap.size, 0, none⟩ = some (.string ⟨#[]⟩) := HBX.out.cell 0
      have z0 : W10.frozen? ⟨W.heap.size, 0, none⟩ = false := HBX.out.frozen 0
      have c1 : W10.cell? ⟨W.heap.size, 1, none⟩ = some (.string ⟨#[]⟩) := HBX.out.cell 1
      have z1 : W10.frozen? ⟨W.heap.size, 1, none⟩ = false := HBX.out.frozen 1
      have c2 : W10.cell? ⟨W.heap.size, 2, none⟩ = some (.int .u64 0) := HBX.out.cell 2
      have z2 : W10.frozen? ⟨W.heap.size, 2, none⟩ = false := HBX.out.frozen 2
      have c3 : W10.cell? ⟨W.heap.size, 3, none⟩ = some (.int .u64 0) := HBX.out.cell 3
      have z3 : W10.frozen? ⟨W.heap.size, 3, none⟩ = false := HBX.out.frozen 3
      have c4 : W10.cell? ⟨W.heap.size, 4, none⟩ = some (.int .i64 0) := HBX.out.cell 4
      have z4 : W10.frozen? ⟨W.heap.size, 4, none⟩ = false := HBX.out.frozen 4
      have c5 : W10.cell? ⟨W.heap.size, 5, none⟩ = some (.int .i64 0) := HBX.out.cell 5
      have z5 : W10.frozen? ⟨W.heap.size, 5, none⟩ = false := HBX.out.frozen 5
      have c6 : W10.cell? ⟨W.heap.size, 6, none⟩ = some (.int .i64 0) := HBX.out.cell 6
      have z6 : W10.frozen? ⟨W.heap.size, 6, none⟩ = false := HBX.out.frozen 6
      have c7 : W10.cell? ⟨W.heap.size, 7, none⟩ = some (.bool false) := HBX.out.cell 7
      have z7 : W10.frozen? ⟨W.heap.size, 7, none⟩ = false := HBX.out.frozen 7
      go_wp2_with fail
      have hbx : BoxN ((((((((W10.setCell ⟨W.heap.size, 0, none⟩ (.string ⟨x1.toArray⟩)).setCell ⟨W.heap.size, 1, none⟩ (.string ⟨x2.toArray⟩)).setCell ⟨W.heap.size, 2, none⟩ (.int .u64 (x3 : Int))).setCell ⟨W.heap.size, 3, none⟩ (.int .u64 (x4 : Int))).setCell ⟨W.heap.size, 4, none⟩ (.int .i64 (x5 : Int))).setCell ⟨W.heap.size, 5, none⟩ (.int .i64 (x6 : Int))).setCell ⟨W.heap.size, 6, none⟩ (.int .i64 (x7 : Int))).setCell ⟨W.heap.size, 7, none⟩ (.bool bf)) W.heap.size #[.string ⟨x1.toArray⟩, .string ⟨x2.toArray⟩, .int .u64 (x3 : Int), .int .u64 (x4 : Int), .int .i64 (x5 : Int), .int .i64 (x6 : Int), .int .i64 (x7 : Int), .bool bf] := ((((((((HBX.out.set 0 (.string ⟨x1.toArray⟩)).set 1 (.string ⟨x2.toArray⟩)).set 2 (.int .u64 (x3 : Int))).set 3 (.int .u64 (x4 : Int))).set 4 (.int .i64 (x5 : Int))).set 5 (.int .i64 (x6 : Int))).set 6 (.int .i64 (x7 : Int))).set 7 (.bool bf))
      have HRF := Lib.hid (show RdAt base R ((((((((W10.setCell ⟨W.heap.size, 0, none⟩ (.string ⟨x1.toArray⟩)).setCell ⟨W.heap.size, 1, none⟩ (.string ⟨x2.toArray⟩)).setCell ⟨W.heap.size, 2, none⟩ (.int .u64 (x3 : Int))).setCell ⟨W.heap.size, 3, none⟩ (.int .u64 (x4 : Int))).setCell ⟨W.heap.size, 4, none⟩ (.int .i64 (x5 : Int))).setCell ⟨W.heap.size, 5, none⟩ (.int .i64 (x6 : Int))).setCell ⟨W.heap.size, 6, none⟩ (.int .i64 (x7 : Int))).setCell ⟨W.heap.size, 7, none⟩ (.bool bf)) s8 from (rd_setB (B := W.heap.size) (j := 7) (rd_setB (B := W.heap.size) (j := 6) (rd_setB (B := W.heap.size) (j := 5) (rd_setB (B := W.heap.size) (j := 4) (rd_setB (B := W.heap.size) (j := 3) (rd_setB (B := W.heap.size) (j := 2) (rd_setB (B := W.heap.size) (j := 1) (rd_setB (B := W.heap.size) (j := 0) HR.out hlt (.string ⟨x1.toArray⟩)) hlt (.string ⟨x2.toArray⟩)) hlt (.int .u64 (x3 : Int))) hlt (.int .u64 (x4 : Int))) hlt (.int .i64 (x5 : Int))) hlt (.int .i64 (x6 : Int))) hlt (.int .i64 (x7 : Int))) hlt (.bool bf)))
      have HKF := Lib.hid (show KP W.heap.size (· = R) W ((((((((W10.setCell ⟨W.heap.size, 0, none⟩ (.string ⟨x1.toArray⟩)).setCell ⟨W.heap.size, 1, none⟩ (.string ⟨x2.toArray⟩)).setCell ⟨W.heap.size, 2, none⟩ (.int .u64 (x3 : Int))).setCell ⟨W.heap.size, 3, none⟩ (.int .u64 (x4 : Int))).setCell ⟨W.heap.size, 4, none⟩ (.int .i64 (x5 : Int))).setCell ⟨W.heap.size, 5, none⟩ (.int .i64 (x6 : Int))).setCell ⟨W.heap.size, 6, none⟩ (.int .i64 (x7 : Int))).setCell ⟨W.heap.size, 7, none⟩ (.bool bf)) from (kp_set (B := W.heap.size) (j := 7) (kp_set (B := W.heap.size) (j := 6) (kp_set (B := W.heap.size) (j := 5) (kp_set (B := W.heap.size) (j := 4) (kp_set (B := W.heap.size) (j := 3) (kp_set (B := W.heap.size) (j := 2) (kp_set (B := W.heap.size) (j := 1) (kp_set (B := W.heap.size) (j := 0) HK.out (Nat.le_refl _) (.string ⟨x1.toArray⟩)) (Nat.le_refl _) (.string ⟨x2.toArray⟩)) (Nat.le_refl _) (.int .u64 (x3 : Int))) (Nat.le_refl _) (.int .u64 (x4 : Int))) (Nat.le_refl _) (.int .i64 (x5 : Int))) (Nat.le_refl _) (.int .i64 (x6 : Int))) (Nat.le_refl _) (.int .i64 (x7 : Int))) (Nat.le_refl _) (.bool bf)))
      obtain ⟨WF, hWF⟩ : ∃ W', ((((((((W10.setCell ⟨W.heap.size, 0, none⟩ (.string ⟨x1.toArray⟩)).setCell ⟨W.heap.size, 1, none⟩ (.string ⟨x2.toArray⟩)).setCell ⟨W.heap.size, 2, none⟩ (.int .u64 (x3 : Int))).setCell ⟨W.heap.size, 3, none⟩ (.int .u64 (x4 : Int))).setCell ⟨W.heap.size, 4, none⟩ (.int .i64 (x5 : Int))).setCell ⟨W.heap.size, 5, none⟩ (.int .i64 (x6 : Int))).setCell ⟨W.heap.size, 6, none⟩ (.int .i64 (x7 : Int))).setCell ⟨W.heap.size, 7, none⟩ (.bool bf)) = W' := ⟨_, rfl⟩
      rw [hWF] at hbx HRF HKF ⊢
      clear hWF
      refine bodyPost_ret (v := .agg #[.string ⟨x1.toArray⟩, .string ⟨x2.toArray⟩, .int .u64 (x3 : Int), .int .u64 (x4 : Int), .int .i64 (x5 : Int), .int .i64 (x6 : Int), .int .i64 (x7 : Int), .bool bf]) ?_ rfl ⟨rfl, HRF.out, HKF.out⟩
      have q0 : WF.cell? ⟨W.heap.size, 0, none⟩ = some (.string ⟨x1.toArray⟩) := hbx.cell 0
      have q1 : WF.cell? ⟨W.heap.size, 1, none⟩ = some (.string ⟨x2.toArray⟩) := hbx.cell 1
      have q2 : WF.cell? ⟨W.heap.size, 2, none⟩ = some (.int .u64 (x3 : Int)) := hbx.cell 2
      have q3 : WF.cell? ⟨W.heap.size, 3, none⟩ = some (.int .u64 (x4 : Int)) := hbx.cell 3
      have q4 : WF.cell? ⟨W.heap.size, 4, none⟩ = some (.int .i64 (x5 : Int)) := hbx.cell 4
      have q5 : WF.cell? ⟨W.heap.size, 5, none⟩ = some (.int .i64 (x6 : Int)) := hbx.cell 5
      have q6 : WF.cell? ⟨W.heap.size, 6, none⟩ = some (.int .i64 (x7 : Int)) := hbx.cell 6
      have q7 : WF.cell? ⟨W.heap.size, 7, none⟩ = some (.bool bf) := hbx.cell 7
      simp [results, Try.results43, go_sem, q0, q1, q2, q3, q4, q5, q6, q7]
    · go_upto_region 5 with fail
      obtain ⟨W9, hW9⟩ : ∃ W9, W8 = W9 := ⟨_, rfl⟩
      rw [hW9] at HR HB3 HBX HK ⊢
      clear hW9 r1 rz
      have t7 : W9.cell? ⟨W7.heap.size, 7, none⟩ = some (.bool false) := HB3.out.cell 7
      have t7z : W9.frozen? ⟨W7.heap.size, 7, none⟩ = false := HB3.out.frozen 7
      go_upto_region 6 with fail
      rw [HBE.out]
      have HR := Lib.hid (rd_setB (B := W7.heap.size) (j := 7) HR.out (by omega) (.bool bf))
      have HK := Lib.hid (kp_set (B := W7.heap.size) (j := 7) HK.out (by omega) (.bool bf))
      have HBX := Lib.hid (step_box HBX.out (KP.set1 W9 W7.heap.size 7 (.bool bf)) (by omega))
      have HB3 := Lib.hid (show BoxN _ _ #[.string ⟨x1.toArray⟩, .string ⟨x2.toArray⟩, .int .u64 (x3 : Int), .int .u64 (x4 : Int), .int .i64 (x5 : Int), .int .i64 (x6 : Int), .int .i64 (x7 : Int), .bool bf] from HB3.out.set 7 (.bool bf))
      obtain ⟨W10, hW10⟩ : ∃ W', W9.setCell ⟨W7.heap.size, 7, none⟩ (.bool bf) = W' := ⟨_, rfl⟩
      rw [hW10] at HR HB3 HBX HK ⊢
      clear hW10 t7 t7z
      have y0 : W10.cell? ⟨W7.heap.size, 0, none⟩ = some (.string ⟨x1.toArray⟩) := HB3.out.cell 0
      have y1 : W10.cell? ⟨W7.heap.size, 1, none⟩ = some (.string ⟨x2.toArray⟩) := HB3.out.cell 1
      have y2 : W10.cell? ⟨W7.heap.size, 2, none⟩ = some (.int .u64 (x3 : Int)) := HB3.out.cell 2
      have y3 : W10.cell? ⟨W7.heap.size, 3, none⟩ = some (.int .u64 (x4 : Int)) := HB3.out.cell 3
      have y4 : W10.cell? ⟨W7.heap.size, 4, none⟩ = some (.int .i64 (x5 : Int)) := HB3.out.cell 4
      have y5 : W10.cell? ⟨W7.heap.size, 5, none⟩ = some (.int .i64 (x6 : Int)) := HB3.out.cell 5
      have y6 : W10.cell? ⟨W7.heap.size, 6, none⟩ = some (.int .i64 (x7 : Int)) := HB3.out.cell 6
      have y7 : W10.cell? ⟨W7.heap.size, 7, none⟩ = some (.bool bf) := HB3.out.cell 7
      have c0 : W10.cell? ⟨W.heap.size, 0, none⟩ = some (.string ⟨#[]⟩) := HBX.out.cell 0
      have z0 : W10.frozen? ⟨W.heap.size, 0, none⟩ = false := HBX.out.frozen 0
      have c1 : W10.cell? ⟨W.heap.size, 1, none⟩ = some (.string ⟨#[]⟩) := HBX.out.cell 1
      have z1 : W10.frozen? ⟨W.heap.size, 1, none⟩ = false := HBX.out.frozen 1
      have c2 : W10.cell? ⟨W.heap.size, 2, none⟩ = some (.int .u64 0) := HBX.out.cell 2
      have z2 : W10.frozen? ⟨W.heap.size, 2, none⟩ = false := HBX.out.frozen 2
      have c3 : W10.cell? ⟨W.heap.size, 3, none⟩ = some (.int .u64 0) := HBX.out.cell 3
      have z3 : W10.frozen? ⟨W.heap.size, 3, none⟩ = false := HBX.out.frozen 3
      have c4 : W10.cell? ⟨W.heap.size, 4, none⟩ = some (.int .i64 0) := HBX.out.cell 4
      have z4 : W10.frozen? ⟨W.heap.size, 4, none⟩ = false := HBX.out.frozen 4
      have c5 : W10.cell? ⟨W.heap.size, 5, none⟩ = some (.int .i64 0) := HBX.out.cell 5
      have z5 : W10.frozen? ⟨W.heap.size, 5, none⟩ = false := HBX.out.frozen 5
      have c6 : W10.cell? ⟨W.heap.size, 6, none⟩ = some (.int .i64 0) := HBX.out.cell 6
      have z6 : W10.frozen? ⟨W.heap.size, 6, none⟩ = false := HBX.out.frozen 6
      have c7 : W10.cell? ⟨W.heap.size, 7, none⟩ = some (.bool false) := HBX.out.cell 7
      have z7 : W10.frozen? ⟨W.heap.size, 7, none⟩ = false := HBX.out.frozen 7
      go_wp2_with fail
      have hbx : BoxN ((((((((W10.setCell ⟨W.heap.size, 0, none⟩ (.string ⟨x1.toArray⟩)).setCell ⟨W.heap.size, 1, none⟩ (.string ⟨x2.toArray⟩)).setCell ⟨W.heap.size, 2, none⟩ (.int .u64 (x3 : Int))).setCell ⟨W.heap.size, 3, none⟩ (.int .u64 (x4 : Int))).setCell ⟨W.heap.size, 4, none⟩ (.int .i64 (x5 : Int))).setCell ⟨W.heap.size, 5, none⟩ (.int .i64 (x6 : Int))).setCell ⟨W.heap.size, 6, none⟩ (.int .i64 (x7 : Int))).setCell ⟨W.heap.size, 7, none⟩ (.bool bf)) W.heap.size #[.string ⟨x1.toArray⟩, .string ⟨x2.toArray⟩, .int .u64 (x3 : Int), .int .u64 (x4 : Int), .int .i64 (x5 : Int), .int .i64 (x6 : Int), .int .i64 (x7 : Int), .bool bf] := ((((((((HBX.out.set 0 (.string ⟨x1.toArray⟩)).set 1 (.string ⟨x2.toArray⟩)).set 2 (.int .u64 (x3 : Int))).set 3 (.int .u64 (x4 : Int))).set 4 (.int .i64 (x5 : Int))).set 5 (.int .i64 (x6 : Int))).set 6 (.int .i64 (x7 : Int))).set 7 (.bool bf))
      have HRF := Lib.hid (show RdAt base R ((((((((W10.setCell ⟨W.heap.size, 0, none⟩ (.string ⟨x1.toArray⟩)).setCell ⟨W.heap.size, 1, none⟩ (.string ⟨x2.toArray⟩)).setCell ⟨W.heap.size, 2, none⟩ (.int .u64 (x3 : Int))).setCell ⟨W.heap.size, 3, none⟩ (.int .u64 (x4 : Int))).setCell ⟨W.heap.size, 4, none⟩ (.int .i64 (x5 : Int))).setCell ⟨W.heap.size, 5, none⟩ (.int .i64 (x6 : Int))).setCell ⟨W.heap.size, 6, none⟩ (.int .i64 (x7 : Int))).setCell ⟨W.heap.size, 7, none⟩ (.bool bf)) s8 from (rd_setB (B := W.heap.size) (j := 7) (rd_setB (B := W.heap.size) (j := 6) (rd_setB (B := W.heap.size) (j := 5) (rd_setB (B := W.heap.size) (j := 4) (rd_setB (B := W.heap.size) (j := 3) (rd_setB (B := W.heap.size) (j := 2) (rd_setB (B := W.heap.size) (j := 1) (rd_setB (B := W.heap.size) (j := 0) HR.out hlt (.string ⟨x1.toArray⟩)) hlt (.string ⟨x2.toArray⟩)) hlt (.int .u64 (x3 : Int))) hlt (.int .u64 (x4 : Int))) hlt (.int .i64 (x5 : Int))) hlt (.int .i64 (x6 : Int))) hlt (.int .i64 (x7 : Int))) hlt (.bool bf)))
      have HKF := Lib.hid (show KP W.heap.size (· = R) W ((((((((W10.setCell ⟨W.heap.size, 0, none⟩ (.string ⟨x1.toArray⟩)).setCell ⟨W.heap.size, 1, none⟩ (.string ⟨x2.toArray⟩)).setCell ⟨W.heap.size, 2, none⟩ (.int .u64 (x3 : Int))).setCell ⟨W.heap.size, 3, none⟩ (.int .u64 (x4 : Int))).setCell ⟨W.heap.size, 4, none⟩ (.int .i64 (x5 : Int))).setCell ⟨W.heap.size, 5, none⟩ (.int .i64 (x6 : Int))).setCell ⟨W.heap.size, 6, none⟩ (.int .i64 (x7 : Int))).setCell ⟨W.heap.size, 7, none⟩ (.bool bf)) from (kp_set (B := W.heap.size) (j := 7) (kp_set (B := W.heap.size) (j := 6) (kp_set (B := W.heap.size) (j := 5) (kp_set (B := W.heap.size) (j := 4) (kp_set (B := W.heap.size) (j := 3) (kp_set (B := W.heap.size) (j := 2) (kp_set (B := W.heap.size) (j := 1) (kp_set (B := W.heap.size) (j := 0) HK.out (Nat.le_refl _) (.string ⟨x1.toArray⟩)) (Nat.le_refl _) (.string ⟨x2.toArray⟩)) (Nat.le_refl _) (.int .u64 (x3 : Int))) (Nat.le_refl _) (.int .u64 (x4 : Int))) (Nat.le_refl _) (.int .i64 (x5 : Int))) (Nat.le_refl _) (.int .i64 (x6 : Int))) (Nat.le_refl _) (.int .i64 (x7 : Int))) (Nat.le_refl _) (.bool bf)))
      obtain ⟨WF, hWF⟩ : ∃ W', ((((((((W10.setCell ⟨W.heap.size, 0, none⟩ (.string ⟨x1.toArray⟩)).setCell ⟨W.heap.size, 1, none⟩ (.string ⟨x2.toArray⟩)).setCell ⟨W.heap.size, 2, none⟩ (.int .u64 (x3 : Int))).setCell ⟨W.heap.size, 3, none⟩ (.int .u64 (x4 : Int))).setCell ⟨W.heap.size, 4, none⟩ (.int .i64 (x5 : Int))).setCell ⟨W.heap.size, 5, none⟩ (.int .i64 (x6 : Int))).setCell ⟨W.heap.size, 6, none⟩ (.int .i64 (x7 : Int))).setCell ⟨W.heap.size, 7, none⟩ (.bool bf)) = W' := ⟨_, rfl⟩
      rw [hWF] at hbx HRF HKF ⊢
      clear hWF
      refine bodyPost_ret (v := .agg #[.string ⟨x1.toArray⟩, .string ⟨x2.toArray⟩, .int .u64 (x3 : Int), .int .u64 (x4 : Int), .int .i64 (x5 : Int), .int .i64 (x6 : Int), .int .i64 (x7 : Int), .bool bf]) ?_ rfl ⟨rfl, HRF.out, HKF.out⟩
      have q0 : WF.cell? ⟨W.heap.size, 0, none⟩ = some (.string ⟨x1.toArray⟩) := hbx.cell 0
      have q1 : WF.cell? ⟨W.heap.size, 1, none⟩ = some (.string ⟨x2.toArray⟩) := hbx.cell 1
      have q2 : WF.cell? ⟨W.heap.size, 2, none⟩ = some (.int .u64 (x3 : Int)) := hbx.cell 2
      have q3 : WF.cell? ⟨W.heap.size, 3, none⟩ = some (.int .u64 (x4 : Int)) := hbx.cell 3
      have q4 : WF.cell? ⟨W.heap.size, 4, none⟩ = some (.int .i64 (x5 : Int)) := hbx.cell 4
      have q5 : WF.cell? ⟨W.heap.size, 5, none⟩ = some (.int .i64 (x6 : Int)) := hbx.cell 5
      have q6 : WF.cell? ⟨W.heap.size, 6, none⟩ = some (.int .i64 (x7 : Int)) := hbx.cell 6
      have q7 : WF.cell? ⟨W.heap.size, 7, none⟩ = some (.bool bf) := hbx.cell 7
      simp [results, Try.results43, go_sem, q0, q1, q2, q3, q4, q5, q6, q7]
end Go.Proofs.Ytknldomgmogccaa
