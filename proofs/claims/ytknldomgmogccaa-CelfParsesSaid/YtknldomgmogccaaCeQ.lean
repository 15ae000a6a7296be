/- Parse: its contract. -/
import Derived.Test.YtknldomgmogccaaCeP
import Derived.Deep.RegionLaw
import Derived.Deep.RegionWith
import Derived.Deep.Cut
namespace Go.Proofs.Ytknldomgmogccaa
set_option linter.unusedVariables false
set_option linter.unusedSimpArgs false
open Go.Joins Go.ChangeShapes Go.WideShapes Go.ChangeAt Go.RowKit Go.Deep

theorem below_set {w w' : World} (h : Below w.heap.size w w') {B j : Nat} (hB : w.heap.size ≤ B) (u : Value) : Below w.heap.size w (w'.setCell ⟨B, j, none⟩ u) := Below.setCell h (p := ⟨B, j, none⟩) hB u
theorem boxN_drew {W : World} {B : Nat} {cs : Array Value} (h : BoxN W B cs) : BoxN W.drew B cs := h
theorem below_drew {w w' : World} (h : Below w.heap.size w w') : Below w.heap.size w w'.drew := ⟨h.os, h.tape, h.output, h.size, h.block⟩
set_option maxHeartbeats 1000000 in
set_option maxRecDepth 100000 in
theorem parse_any (a : Option Addr) (c : Nat) (b : List UInt8) (W : World) (hb : Rd W a b.length (u8v b)) (hc : b.length ≤ c) (hl : b.length ≤ 100000) :
    Calls Try.prog 8 #[.slice a b.length c] W fun e W' => ∃ o : Ob, e = .returned (.tuple #[objV o, .int .i64 (parseF b).2]) ∧ Below W.heap.size W W' ∧ RdOb W' o ∧ FitOb o ∧ coreO o = (parseF b).1 ∧ o.needs.length ≤ o.nc := by
  have HFIT := Lib.hid (fun (o : Ob) (h : coreO o = (objP ⟨b, 0⟩).1) => fit_of h)
  unfold parseF
  obtain ⟨⟨co, sf⟩, hr⟩ : ∃ r, objP ⟨b, 0⟩ = r := ⟨_, rfl⟩
  have HOB := Lib.hid (fun base R W (h : RdAt base R W ⟨b, 0⟩) => object_any base R ⟨b, 0⟩ W h hl)
  rw [hr] at HOB HFIT ⊢
  simp only [] at HOB HFIT
  obtain ⟨⟨rc, re⟩, hre⟩ : ∃ x, parseR (co, sf) = x := ⟨_, rfl⟩
  rw [hre]
  simp only []
  have HRE := Lib.hid hre
  have HBY := Lib.hid (show BytesIn W.heap.size W a b from ⟨hb, fun h0 => by obtain ⟨g, off, e, h1, -⟩ := hb.2 h0; exact ⟨g, off, e, h1⟩⟩)
  obtain ⟨n, hn⟩ : ∃ n, b.length = n := ⟨_, rfl⟩
  have HN := Lib.hid hn
  rw [hn] at hc hl ⊢
  clear hr hre hb hn
  go_enter Try.func8, Try.ntmps8
  go_wp2_with fail
  obtain ⟨W0, hW0⟩ : ∃ W0, W.alloc (.cells #[.string ⟨#[]⟩, .slice none 0 0, .slice none 0 0, .slice none 0 0, .slice none 0 0, .slice none 0 0, .slice none 0 0] 30) = W0 := ⟨_, rfl⟩
  have hz0 : W0.heap.size = W.heap.size + 1 := by rw [← hW0, size_alloc]
  have HB0 := Lib.hid (show Below W.heap.size W W0 by rw [← hW0]; exact bAlloc (Below.refl _ _) _)
  have HBX := Lib.hid (show BoxN W0 W.heap.size #[.string ⟨#[]⟩, .slice none 0 0, .slice none 0 0, .slice none 0 0, .slice none 0 0, .slice none 0 0, .slice none 0 0] by rw [← hW0]; exact BoxN.new W _ _)
  obtain ⟨W1, hW1⟩ : ∃ W1, W0.alloc (.cells #[.slice a n c, .int .i64 0] 49) = W1 := ⟨_, rfl⟩
  have hz1 : W1.heap.size = W.heap.size + 2 := by rw [← hW1, size_alloc, hz0]
  have HB1 := Lib.hid (show Below W.heap.size W W1 by rw [← hW1]; exact bAlloc HB0.out _)
  have HBX := Lib.hid (show BoxN W1 W.heap.size #[.string ⟨#[]⟩, .slice none 0 0, .slice none 0 0, .slice none 0 0, .slice none 0 0, .slice none 0 0, .slice none 0 0] by rw [← hW1]; exact HBX.out.below (bAlloc (Below.refl W0.heap.size W0) _) (by omega))
  have HR := Lib.hid (show RdAt W.heap.size (W.heap.size + 1) W1 ⟨b, 0⟩ by
    refine ⟨by omega, ⟨a, c, ?_, by show b.length ≤ c; rw [HN.out]; exact hc, ⟨HBY.out.1.below HB1.out, HBY.out.2⟩⟩, by show b.length < _; rw [HN.out]; omega⟩
    have h0 := BoxN.new W0 #[.slice a n c, .int .i64 0] 49
    rw [hW1, hz0] at h0
    simp only []
    rw [HN.out]
    exact h0)
  rw [hW0, hW1]
  clear hW0 hW1 HB0 HBY
  refine (HOB.out W.heap.size (W.heap.size + 1) W1 HR.out).mono ?_; rintro e W2 ⟨⟨o, rfl, hco, hrd, hnc⟩, hrr, hkp⟩
  have HFO := Lib.hid (HFIT.out o hco)
  have HBX := Lib.hid (step_box HBX.out hkp (by omega))
  have HB2 := Lib.hid (HB1.out.trans (hkp.to_below (m := W.heap.size) (by omega) (fun b hb q => by have h1 : b = W.heap.size + 1 := q; omega)))
  have hz2 := hkp.size
  have HRO := Lib.hid hrd
  have HNC := Lib.hid hnc
  have HCO := Lib.hid hco
  have hoc : (objC o).toArray = #[.string ⟨o.name.toArray⟩, .slice o.na o.needs.length o.nc, .slice o.ga o.segs.length o.gc, .slice o.sa o.syms.length o.sc, .slice o.ra o.rels.length o.rc, .slice o.ia o.init.length o.ic, .slice o.fa o.fini.length o.fc] := rfl
  rw [hoc]
  go_upto_region 3 with fail
  obtain ⟨W3, hW3⟩ : ∃ W3, W2.alloc (.cells #[.string ⟨o.name.toArray⟩, .slice o.na o.needs.length o.nc, .slice o.ga o.segs.length o.gc, .slice o.sa o.syms.length o.sc, .slice o.ra o.rels.length o.rc, .slice o.ia o.init.length o.ic, .slice o.fa o.fini.length o.fc] 30) = W3 := ⟨_, rfl⟩
  have HBX := Lib.hid (show BoxN W3 W.heap.size #[.string ⟨#[]⟩, .slice none 0 0, .slice none 0 0, .slice none 0 0, .slice none 0 0, .slice none 0 0, .slice none 0 0] by rw [← hW3]; exact HBX.out.below (bAlloc (Below.refl W2.heap.size W2) _) (by omega))
  have HB3 := Lib.hid (show Below W.heap.size W W3 by rw [← hW3]; exact bAlloc HB2.out _)
  have HY := Lib.hid (show BoxN W3 W2.heap.size #[.string ⟨o.name.toArray⟩, .slice o.na o.needs.length o.nc, .slice o.ga o.segs.length o.gc, .slice o.sa o.syms.length o.sc, .slice o.ra o.rels.length o.rc, .slice o.ia o.init.length o.ic, .slice o.fa o.fini.length o.fc] by rw [← hW3]; exact BoxN.new W2 _ _)
  have hrr := (show RdAt W.heap.size (W.heap.size + 1) W3 sf by rw [← hW3]; exact hrr.below (bAlloc (Below.refl _ _) _))
  have hz3 : W3.heap.size = W2.heap.size + 1 := by rw [← hW3, size_alloc]
  have HK3 := Lib.hid (show KP W2.heap.size (fun b => b ≤ W1.heap.size) W2 W3 by rw [← hW3]; exact (KP.refl W2.heap.size (fun b => b ≤ W1.heap.size) W2).alloc _ (Nat.le_refl _))
  rw [hW3]
  obtain ⟨ra, rc', hbx, hrc, hby⟩ := hrr.box
  obtain ⟨rest, e⟩ := sf
  simp only [] at hbx
  obtain ⟨m, hm⟩ : ∃ m, rest.length = m := ⟨_, rfl⟩
  rw [hm] at hbx
  have HRB := Lib.hid hbx
  have r0 : W3.cell? ⟨W.heap.size + 1, 0, none⟩ = some (.slice ra m rc') := hbx.cell 0
  have r1 : W3.cell? ⟨W.heap.size + 1, 1, none⟩ = some (.int .i64 e) := hbx.cell 1
  have rz : W3.frozen? ⟨W.heap.size + 1, 1, none⟩ = false := hbx.frozen 1
  have hpr : (if (if e = 0 ∧ 0 < m then (102 : Int) else e) = 0 then (if checkC co = 0 then (co, (0 : Int)) else (emptyC, checkC co)) else (emptyC, if e = 0 ∧ 0 < m then (102 : Int) else e)) = (rc, re) := by
    have h0 := HRE.out
    unfold parseR wrongP at h0
    simp only [] at h0
    rw [hm] at h0
    exact h0
  have HPR := Lib.hid hpr
  obtain ⟨B5, hB5⟩ : ∃ B, W2.heap.size = B := ⟨_, rfl⟩
  rw [hB5] at HY hz3 ⊢
  have hz2 : W.heap.size + 2 ≤ B5 := by omega
  clear hW3 hrr hbx hrc hby hm hpr hkp hco hrd hnc hoc
  by_cases hA : e = 0 ∧ 0 < m
  · have hp := HPR.out
    rw [if_pos hA, if_neg (by decide)] at hp
    simp only [Prod.mk.injEq] at hp
    obtain ⟨hp1, hp2⟩ := hp
    subst hp1
    subst hp2
    obtain ⟨hA1, hA2⟩ := hA
    subst hA1
    have hA3 : (0 : Int) < (m : Int) := by omega
    go_upto_region 8 with fail
    have HBX := Lib.hid (step_box HBX.out (KP.set1 W3 (W.heap.size + 1) 1 (.int .i64 102)) (by omega))
    have HB5 := Lib.hid (below_set (B := W.heap.size + 1) (j := 1) HB3.out (by omega) (.int .i64 102))
    have HRB5 := Lib.hid (HRB.out.set 1 (.int .i64 102))
    obtain ⟨W5, hW5⟩ : ∃ W5, W3.setCell ⟨W.heap.size + 1, 1, none⟩ (.int .i64 102) = W5 := ⟨_, rfl⟩
    rw [hW5] at HBX HB5 HRB5 ⊢
    clear hW5 r0 r1 rz
    have r1 : W5.cell? ⟨W.heap.size + 1, 1, none⟩ = some (.int .i64 102) := HRB5.out.cell 1
    have c0 : W5.cell? ⟨W.heap.size, 0, none⟩ = some (.string ⟨#[]⟩) := HBX.out.cell 0
    have z0 : W5.frozen? ⟨W.heap.size, 0, none⟩ = false := HBX.out.frozen 0
    have c1 : W5.cell? ⟨W.heap.size, 1, none⟩ = some (.slice none 0 0) := HBX.out.cell 1
    have z1 : W5.frozen? ⟨W.heap.size, 1, none⟩ = false := HBX.out.frozen 1
    have c2 : W5.cell? ⟨W.heap.size, 2, none⟩ = some (.slice none 0 0) := HBX.out.cell 2
    have z2 : W5.frozen? ⟨W.heap.size, 2, none⟩ = false := HBX.out.frozen 2
    have c3 : W5.cell? ⟨W.heap.size, 3, none⟩ = some (.slice none 0 0) := HBX.out.cell 3
    have z3 : W5.frozen? ⟨W.heap.size, 3, none⟩ = false := HBX.out.frozen 3
    have c4 : W5.cell? ⟨W.heap.size, 4, none⟩ = some (.slice none 0 0) := HBX.out.cell 4
    have z4 : W5.frozen? ⟨W.heap.size, 4, none⟩ = false := HBX.out.frozen 4
    have c5 : W5.cell? ⟨W.heap.size, 5, none⟩ = some (.slice none 0 0) := HBX.out.cell 5
    have z5 : W5.frozen? ⟨W.heap.size, 5, none⟩ = false := HBX.out.frozen 5
    have c6 : W5.cell? ⟨W.heap.size, 6, none⟩ = some (.slice none 0 0) := HBX.out.cell 6
    have z6 : W5.frozen? ⟨W.heap.size, 6, none⟩ = false := HBX.out.frozen 6
    go_region_law (fail)
    all_goals
      go_wp2_with fail
      have hbx0 : BoxN (((((((W5.setCell ⟨W.heap.size, 0, none⟩ (.string ⟨#[]⟩)).setCell ⟨W.heap.size, 1, none⟩ (.slice none 0 0)).setCell ⟨W.heap.size, 2, none⟩ (.slice none 0 0)).setCell ⟨W.heap.size, 3, none⟩ (.slice none 0 0)).setCell ⟨W.heap.size, 4, none⟩ (.slice none 0 0)).setCell ⟨W.heap.size, 5, none⟩ (.slice none 0 0)).setCell ⟨W.heap.size, 6, none⟩ (.slice none 0 0)) W.heap.size #[.string ⟨#[]⟩, .slice none 0 0, .slice none 0 0, .slice none 0 0, .slice none 0 0, .slice none 0 0, .slice none 0 0] := (((((((HBX.out.set 0 (.string ⟨#[]⟩)).set 1 (.slice none 0 0)).set 2 (.slice none 0 0)).set 3 (.slice none 0 0)).set 4 (.slice none 0 0)).set 5 (.slice none 0 0)).set 6 (.slice none 0 0))
      have hbx := boxN_drew hbx0
      clear hbx0
      have HBF := Lib.hid (show Below W.heap.size W (((((((W5.setCell ⟨W.heap.size, 0, none⟩ (.string ⟨#[]⟩)).setCell ⟨W.heap.size, 1, none⟩ (.slice none 0 0)).setCell ⟨W.heap.size, 2, none⟩ (.slice none 0 0)).setCell ⟨W.heap.size, 3, none⟩ (.slice none 0 0)).setCell ⟨W.heap.size, 4, none⟩ (.slice none 0 0)).setCell ⟨W.heap.size, 5, none⟩ (.slice none 0 0)).setCell ⟨W.heap.size, 6, none⟩ (.slice none 0 0)).drew from (below_drew (below_set (below_set (below_set (below_set (below_set (below_set (below_set HB5.out (Nat.le_refl _) (.string ⟨#[]⟩)) (Nat.le_refl _) (.slice none 0 0)) (Nat.le_refl _) (.slice none 0 0)) (Nat.le_refl _) (.slice none 0 0)) (Nat.le_refl _) (.slice none 0 0)) (Nat.le_refl _) (.slice none 0 0)) (Nat.le_refl _) (.slice none 0 0))))
      obtain ⟨WF, hWF⟩ : ∃ W', (((((((W5.setCell ⟨W.heap.size, 0, none⟩ (.string ⟨#[]⟩)).setCell ⟨W.heap.size, 1, none⟩ (.slice none 0 0)).setCell ⟨W.heap.size, 2, none⟩ (.slice none 0 0)).setCell ⟨W.heap.size, 3, none⟩ (.slice none 0 0)).setCell ⟨W.heap.size, 4, none⟩ (.slice none 0 0)).setCell ⟨W.heap.size, 5, none⟩ (.slice none 0 0)).setCell ⟨W.heap.size, 6, none⟩ (.slice none 0 0)).drew = W' := ⟨_, rfl⟩
      rw [hWF] at hbx HBF ⊢
      clear hWF
      have q0 : WF.cell? ⟨W.heap.size, 0, none⟩ = some (.string ⟨#[]⟩) := hbx.cell 0
      have q1 : WF.cell? ⟨W.heap.size, 1, none⟩ = some (.slice none 0 0) := hbx.cell 1
      have q2 : WF.cell? ⟨W.heap.size, 2, none⟩ = some (.slice none 0 0) := hbx.cell 2
      have q3 : WF.cell? ⟨W.heap.size, 3, none⟩ = some (.slice none 0 0) := hbx.cell 3
      have q4 : WF.cell? ⟨W.heap.size, 4, none⟩ = some (.slice none 0 0) := hbx.cell 4
      have q5 : WF.cell? ⟨W.heap.size, 5, none⟩ = some (.slice none 0 0) := hbx.cell 5
      have q6 : WF.cell? ⟨W.heap.size, 6, none⟩ = some (.slice none 0 0) := hbx.cell 6
      refine bodyPost_ret (v := .tuple #[.agg #[.string ⟨#[]⟩, .slice none 0 0, .slice none 0 0, .slice none 0 0, .slice none 0 0, .slice none 0 0, .slice none 0 0], .int .i64 102]) ?_ rfl ⟨emptyO, rfl, HBF.out, empty_rd _, empty_fit, rfl, by decide⟩
      simp [results, Try.results8, go_sem, q0, q1, q2, q3, q4, q5, q6]
  · by_cases hE : e = 0
    · subst hE
      obtain rfl : m = 0 := by
        have h0 : ¬ 0 < m := fun q => hA ⟨rfl, q⟩
        omega
      have hck := check_core o
      rw [HCO.out] at hck
      have HCK := Lib.hid (check_any o W3 (HRO.out W3 HK3.out) HFO.out HNC.out)
      rw [hck] at HCK
      have hp := HPR.out
      rw [if_neg (by omega : ¬ ((0 : Int) = 0 ∧ 0 < 0)), if_pos rfl] at hp
      obtain ⟨ck, hckk⟩ : ∃ ck, checkC co = ck := ⟨_, rfl⟩
      rw [hckk] at HCK hp
      unfold objV at HCK
      have hoc : (objC o).toArray = #[.string ⟨o.name.toArray⟩, .slice o.na o.needs.length o.nc, .slice o.ga o.segs.length o.gc, .slice o.sa o.syms.length o.sc, .slice o.ra o.rels.length o.rc, .slice o.ia o.init.length o.ic, .slice o.fa o.fini.length o.fc] := rfl
      rw [hoc] at HCK
      have HP := Lib.hid hp
      clear hck hckk hp hoc
      have y0 : W3.cell? ⟨B5, 0, none⟩ = some (.string ⟨o.name.toArray⟩) := HY.out.cell 0
      have y1 : W3.cell? ⟨B5, 1, none⟩ = some (.slice o.na o.needs.length o.nc) := HY.out.cell 1
      have y2 : W3.cell? ⟨B5, 2, none⟩ = some (.slice o.ga o.segs.length o.gc) := HY.out.cell 2
      have y3 : W3.cell? ⟨B5, 3, none⟩ = some (.slice o.sa o.syms.length o.sc) := HY.out.cell 3
      have y4 : W3.cell? ⟨B5, 4, none⟩ = some (.slice o.ra o.rels.length o.rc) := HY.out.cell 4
      have y5 : W3.cell? ⟨B5, 5, none⟩ = some (.slice o.ia o.init.length o.ic) := HY.out.cell 5
      have y6 : W3.cell? ⟨B5, 6, none⟩ = some (.slice o.fa o.fini.length o.fc) := HY.out.cell 6
      go_wp2_with fail
      refine HCK.out.mono ?_; rintro e W4 ⟨rfl, hb'⟩
      have r4 : W4.cell? ⟨W.heap.size + 1, 1, none⟩ = some (.int .i64 0) := (hb'.cell (p := ⟨W.heap.size + 1, 1, none⟩) (by rw [hz3]; show W.heap.size + 1 < _; omega)).trans r1
      have rz4 : W4.frozen? ⟨W.heap.size + 1, 1, none⟩ = false := (hb'.frozen (p := ⟨W.heap.size + 1, 1, none⟩) (by rw [hz3]; show W.heap.size + 1 < _; omega)).trans rz
      have HBX := Lib.hid (step_box (HBX.out.below hb' (by omega)) (KP.set1 W4 (W.heap.size + 1) 1 (.int .i64 ck)) (by omega))
      have HB5 := Lib.hid (below_set (B := W.heap.size + 1) (j := 1) (bTrans HB3.out hb') (by omega) (.int .i64 ck))
      have HRB5 := Lib.hid ((HRB.out.below hb' (by omega)).set 1 (.int .i64 ck))
      have HY5 := Lib.hid (step_box (HY.out.below hb' (by omega)) (KP.set1 W4 (W.heap.size + 1) 1 (.int .i64 ck)) (by omega))
      have HK5 := Lib.hid (show KP W2.heap.size (fun b => b ≤ W1.heap.size) W2 (W4.setCell ⟨W.heap.size + 1, 1, none⟩ (.int .i64 ck)) from (HK3.out.below hb' (by omega)).set ⟨W.heap.size + 1, 1, none⟩ (Or.inr (by show W.heap.size + 1 ≤ W1.heap.size; omega)) (.int .i64 ck))
      clear hb' r0 r1 rz
      by_cases hck0 : ck = 0
      · subst hck0
        have hp := HP.out
        rw [if_pos rfl] at hp
        simp only [Prod.mk.injEq] at hp
        obtain ⟨hp1, hp2⟩ := hp
        subst hp1
        subst hp2
        clear y0 y1 y2 y3 y4 y5 y6
        go_upto_region 9 with fail
        obtain ⟨W5, hW5⟩ : ∃ W5, W4.setCell ⟨W.heap.size + 1, 1, none⟩ (.int .i64 0) = W5 := ⟨_, rfl⟩
        rw [hW5] at HBX HB5 HRB5 HY5 HK5 ⊢
        clear hW5 r4 rz4
        have y0 : W5.cell? ⟨B5, 0, none⟩ = some (.string ⟨o.name.toArray⟩) := HY5.out.cell 0
        have y1 : W5.cell? ⟨B5, 1, none⟩ = some (.slice o.na o.needs.length o.nc) := HY5.out.cell 1
        have y2 : W5.cell? ⟨B5, 2, none⟩ = some (.slice o.ga o.segs.length o.gc) := HY5.out.cell 2
        have y3 : W5.cell? ⟨B5, 3, none⟩ = some (.slice o.sa o.syms.length o.sc) := HY5.out.cell 3
        have y4 : W5.cell? ⟨B5, 4, none⟩ = some (.slice o.ra o.rels.length o.rc) := HY5.out.cell 4
        have y5 : W5.cell? ⟨B5, 5, none⟩ = some (.slice o.ia o.init.length o.ic) := HY5.out.cell 5
        have y6 : W5.cell? ⟨B5, 6, none⟩ = some (.slice o.fa o.fini.length o.fc) := HY5.out.cell 6
        have c0 : W5.cell? ⟨W.heap.size, 0, none⟩ = some (.string ⟨#[]⟩) := HBX.out.cell 0
        have z0 : W5.frozen? ⟨W.heap.size, 0, none⟩ = false := HBX.out.frozen 0
        have c1 : W5.cell? ⟨W.heap.size, 1, none⟩ = some (.slice none 0 0) := HBX.out.cell 1
        have z1 : W5.frozen? ⟨W.heap.size, 1, none⟩ = false := HBX.out.frozen 1
        have c2 : W5.cell? ⟨W.heap.size, 2, none⟩ = some (.slice none 0 0) := HBX.out.cell 2
        have z2 : W5.frozen? ⟨W.heap.size, 2, none⟩ = false := HBX.out.frozen 2
        have c3 : W5.cell? ⟨W.heap.size, 3, none⟩ = some (.slice none 0 0) := HBX.out.cell 3
        have z3 : W5.frozen? ⟨W.heap.size, 3, none⟩ = false := HBX.out.frozen 3
        have c4 : W5.cell? ⟨W.heap.size, 4, none⟩ = some (.slice none 0 0) := HBX.out.cell 4
        have z4 : W5.frozen? ⟨W.heap.size, 4, none⟩ = false := HBX.out.frozen 4
        have c5 : W5.cell? ⟨W.heap.size, 5, none⟩ = some (.slice none 0 0) := HBX.out.cell 5
        have z5 : W5.frozen? ⟨W.heap.size, 5, none⟩ = false := HBX.out.frozen 5
        have c6 : W5.cell? ⟨W.heap.size, 6, none⟩ = some (.slice none 0 0) := HBX.out.cell 6
        have z6 : W5.frozen? ⟨W.heap.size, 6, none⟩ = false := HBX.out.frozen 6
        go_wp2_with fail
        have hbx : BoxN (((((((W5.setCell ⟨W.heap.size, 0, none⟩ (.string ⟨o.name.toArray⟩)).setCell ⟨W.heap.size, 1, none⟩ (.slice o.na o.needs.length o.nc)).setCell ⟨W.heap.size, 2, none⟩ (.slice o.ga o.segs.length o.gc)).setCell ⟨W.heap.size, 3, none⟩ (.slice o.sa o.syms.length o.sc)).setCell ⟨W.heap.size, 4, none⟩ (.slice o.ra o.rels.length o.rc)).setCell ⟨W.heap.size, 5, none⟩ (.slice o.ia o.init.length o.ic)).setCell ⟨W.heap.size, 6, none⟩ (.slice o.fa o.fini.length o.fc)) W.heap.size #[.string ⟨o.name.toArray⟩, .slice o.na o.needs.length o.nc, .slice o.ga o.segs.length o.gc, .slice o.sa o.syms.length o.sc, .slice o.ra o.rels.length o.rc, .slice o.ia o.init.length o.ic, .slice o.fa o.fini.length o.fc] := (((((((HBX.out.set 0 (.string ⟨o.name.toArray⟩)).set 1 (.slice o.na o.needs.length o.nc)).set 2 (.slice o.ga o.segs.length o.gc)).set 3 (.slice o.sa o.syms.length o.sc)).set 4 (.slice o.ra o.rels.length o.rc)).set 5 (.slice o.ia o.init.length o.ic)).set 6 (.slice o.fa o.fini.length o.fc))
        have HBF := Lib.hid (show Below W.heap.size W (((((((W5.setCell ⟨W.heap.size, 0, none⟩ (.string ⟨o.name.toArray⟩)).setCell ⟨W.heap.size, 1, none⟩ (.slice o.na o.needs.length o.nc)).setCell ⟨W.heap.size, 2, none⟩ (.slice o.ga o.segs.length o.gc)).setCell ⟨W.heap.size, 3, none⟩ (.slice o.sa o.syms.length o.sc)).setCell ⟨W.heap.size, 4, none⟩ (.slice o.ra o.rels.length o.rc)).setCell ⟨W.heap.size, 5, none⟩ (.slice o.ia o.init.length o.ic)).setCell ⟨W.heap.size, 6, none⟩ (.slice o.fa o.fini.length o.fc)) from (below_set (below_set (below_set (below_set (below_set (below_set (below_set HB5.out (Nat.le_refl _) (.string ⟨o.name.toArray⟩)) (Nat.le_refl _) (.slice o.na o.needs.length o.nc)) (Nat.le_refl _) (.slice o.ga o.segs.length o.gc)) (Nat.le_refl _) (.slice o.sa o.syms.length o.sc)) (Nat.le_refl _) (.slice o.ra o.rels.length o.rc)) (Nat.le_refl _) (.slice o.ia o.init.length o.ic)) (Nat.le_refl _) (.slice o.fa o.fini.length o.fc)))
        have HRF := Lib.hid (HRO.out (((((((W5.setCell ⟨W.heap.size, 0, none⟩ (.string ⟨o.name.toArray⟩)).setCell ⟨W.heap.size, 1, none⟩ (.slice o.na o.needs.length o.nc)).setCell ⟨W.heap.size, 2, none⟩ (.slice o.ga o.segs.length o.gc)).setCell ⟨W.heap.size, 3, none⟩ (.slice o.sa o.syms.length o.sc)).setCell ⟨W.heap.size, 4, none⟩ (.slice o.ra o.rels.length o.rc)).setCell ⟨W.heap.size, 5, none⟩ (.slice o.ia o.init.length o.ic)).setCell ⟨W.heap.size, 6, none⟩ (.slice o.fa o.fini.length o.fc)) (KP.set (KP.set (KP.set (KP.set (KP.set (KP.set (KP.set HK5.out ⟨W.heap.size, 0, none⟩ (Or.inr (show W.heap.size ≤ W1.heap.size by omega)) (.string ⟨o.name.toArray⟩)) ⟨W.heap.size, 1, none⟩ (Or.inr (show W.heap.size ≤ W1.heap.size by omega)) (.slice o.na o.needs.length o.nc)) ⟨W.heap.size, 2, none⟩ (Or.inr (show W.heap.size ≤ W1.heap.size by omega)) (.slice o.ga o.segs.length o.gc)) ⟨W.heap.size, 3, none⟩ (Or.inr (show W.heap.size ≤ W1.heap.size by omega)) (.slice o.sa o.syms.length o.sc)) ⟨W.heap.size, 4, none⟩ (Or.inr (show W.heap.size ≤ W1.heap.size by omega)) (.slice o.ra o.rels.length o.rc)) ⟨W.heap.size, 5, none⟩ (Or.inr (show W.heap.size ≤ W1.heap.size by omega)) (.slice o.ia o.init.length o.ic)) ⟨W.heap.size, 6, none⟩ (Or.inr (show W.heap.size ≤ W1.heap.size by omega)) (.slice o.fa o.fini.length o.fc)))
        obtain ⟨WF, hWF⟩ : ∃ W', (((((((W5.setCell ⟨W.heap.size, 0, none⟩ (.string ⟨o.name.toArray⟩)).setCell ⟨W.heap.size, 1, none⟩ (.slice o.na o.needs.length o.nc)).setCell ⟨W.heap.size, 2, none⟩ (.slice o.ga o.segs.length o.gc)).setCell ⟨W.heap.size, 3, none⟩ (.slice o.sa o.syms.length o.sc)).setCell ⟨W.heap.size, 4, none⟩ (.slice o.ra o.rels.length o.rc)).setCell ⟨W.heap.size, 5, none⟩ (.slice o.ia o.init.length o.ic)).setCell ⟨W.heap.size, 6, none⟩ (.slice o.fa o.fini.length o.fc)) = W' := ⟨_, rfl⟩
        rw [hWF] at hbx HBF HRF ⊢
        clear hWF
        have q0 : WF.cell? ⟨W.heap.size, 0, none⟩ = some (.string ⟨o.name.toArray⟩) := hbx.cell 0
        have q1 : WF.cell? ⟨W.heap.size, 1, none⟩ = some (.slice o.na o.needs.length o.nc) := hbx.cell 1
        have q2 : WF.cell? ⟨W.heap.size, 2, none⟩ = some (.slice o.ga o.segs.length o.gc) := hbx.cell 2
        have q3 : WF.cell? ⟨W.heap.size, 3, none⟩ = some (.slice o.sa o.syms.length o.sc) := hbx.cell 3
        have q4 : WF.cell? ⟨W.heap.size, 4, none⟩ = some (.slice o.ra o.rels.length o.rc) := hbx.cell 4
        have q5 : WF.cell? ⟨W.heap.size, 5, none⟩ = some (.slice o.ia o.init.length o.ic) := hbx.cell 5
        have q6 : WF.cell? ⟨W.heap.size, 6, none⟩ = some (.slice o.fa o.fini.length o.fc) := hbx.cell 6
        refine bodyPost_ret (v := .tuple #[.agg #[.string ⟨o.name.toArray⟩, .slice o.na o.needs.length o.nc, .slice o.ga o.segs.length o.gc, .slice o.sa o.syms.length o.sc, .slice o.ra o.rels.length o.rc, .slice o.ia o.init.length o.ic, .slice o.fa o.fini.length o.fc], .int .i64 0]) ?_ rfl ⟨o, rfl, HBF.out, HRF.out, HFO.out, HCO.out, HNC.out⟩
        simp [results, Try.results8, go_sem, q0, q1, q2, q3, q4, q5, q6]
      · have hp := HP.out
        rw [if_neg hck0] at hp
        simp only [Prod.mk.injEq] at hp
        obtain ⟨hp1, hp2⟩ := hp
        subst hp1
        subst hp2
        clear y0 y1 y2 y3 y4 y5 y6
        go_upto_region 8 with fail
        obtain ⟨W5, hW5⟩ : ∃ W5, W4.setCell ⟨W.heap.size + 1, 1, none⟩ (.int .i64 ck) = W5 := ⟨_, rfl⟩
        rw [hW5] at HBX HB5 HRB5 ⊢
        clear hW5 r4 rz4
        have r1 : W5.cell? ⟨W.heap.size + 1, 1, none⟩ = some (.int .i64 ck) := HRB5.out.cell 1
        have c0 : W5.cell? ⟨W.heap.size, 0, none⟩ = some (.string ⟨#[]⟩) := HBX.out.cell 0
        have z0 : W5.frozen? ⟨W.heap.size, 0, none⟩ = false := HBX.out.frozen 0
        have c1 : W5.cell? ⟨W.heap.size, 1, none⟩ = some (.slice none 0 0) := HBX.out.cell 1
        have z1 : W5.frozen? ⟨W.heap.size, 1, none⟩ = false := HBX.out.frozen 1
        have c2 : W5.cell? ⟨W.heap.size, 2, none⟩ = some (.slice none 0 0) := HBX.out.cell 2
        have z2 : W5.frozen? ⟨W.heap.size, 2, none⟩ = false := HBX.out.frozen 2
        have c3 : W5.cell? ⟨W.heap.size, 3, none⟩ = some (.slice none 0 0) := HBX.out.cell 3
        have z3 : W5.frozen? ⟨W.heap.size, 3, none⟩ = false := HBX.out.frozen 3
        have c4 : W5.cell? ⟨W.heap.size, 4, none⟩ = some (.slice none 0 0) := HBX.out.cell 4
        have z4 : W5.frozen? ⟨W.heap.size, 4, none⟩ = false := HBX.out.frozen 4
        have c5 : W5.cell? ⟨W.heap.size, 5, none⟩ = some (.slice none 0 0) := HBX.out.cell 5
        have z5 : W5.frozen? ⟨W.heap.size, 5, none⟩ = false := HBX.out.frozen 5
        have c6 : W5.cell? ⟨W.heap.size, 6, none⟩ = some (.slice none 0 0) := HBX.out.cell 6
        have z6 : W5.frozen? ⟨W.heap.size, 6, none⟩ = false := HBX.out.frozen 6
        go_region_law (fail)
        all_goals
          go_wp2_with fail
          have hbx0 : BoxN (((((((W5.setCell ⟨W.heap.size, 0, none⟩ (.string ⟨#[]⟩)).setCell ⟨W.heap.size, 1, none⟩ (.slice none 0 0)).setCell ⟨W.heap.size, 2, none⟩ (.slice none 0 0)).setCell ⟨W.heap.size, 3, none⟩ (.slice none 0 0)).setCell ⟨W.heap.size, 4, none⟩ (.slice none 0 0)).setCell ⟨W.heap.size, 5, none⟩ (.slice none 0 0)).setCell ⟨W.heap.size, 6, none⟩ (.slice none 0 0)) W.heap.size #[.string ⟨#[]⟩, .slice none 0 0, .slice none 0 0, .slice none 0 0, .slice none 0 0, .slice none 0 0, .slice none 0 0] := (((((((HBX.out.set 0 (.string ⟨#[]⟩)).set 1 (.slice none 0 0)).set 2 (.slice none 0 0)).set 3 (.slice none 0 0)).set 4 (.slice none 0 0)).set 5 (.slice none 0 0)).set 6 (.slice none 0 0))
          have hbx := boxN_drew hbx0
          clear hbx0
          have HBF := Lib.hid (show Below W.heap.size W (((((((W5.setCell ⟨W.heap.size, 0, none⟩ (.string ⟨#[]⟩)).setCell ⟨W.heap.size, 1, none⟩ (.slice none 0 0)).setCell ⟨W.heap.size, 2, none⟩ (.slice none 0 0)).setCell ⟨W.heap.size, 3, none⟩ (.slice none 0 0)).setCell ⟨W.heap.size, 4, none⟩ (.slice none 0 0)).setCell ⟨W.heap.size, 5, none⟩ (.slice none 0 0)).setCell ⟨W.heap.size, 6, none⟩ (.slice none 0 0)).drew from (below_drew (below_set (below_set (below_set (below_set (below_set (below_set (below_set HB5.out (Nat.le_refl _) (.string ⟨#[]⟩)) (Nat.le_refl _) (.slice none 0 0)) (Nat.le_refl _) (.slice none 0 0)) (Nat.le_refl _) (.slice none 0 0)) (Nat.le_refl _) (.slice none 0 0)) (Nat.le_refl _) (.slice none 0 0)) (Nat.le_refl _) (.slice none 0 0))))
          obtain ⟨WF, hWF⟩ : ∃ W', (((((((W5.setCell ⟨W.heap.size, 0, none⟩ (.string ⟨#[]⟩)).setCell ⟨W.heap.size, 1, none⟩ (.slice none 0 0)).setCell ⟨W.heap.size, 2, none⟩ (.slice none 0 0)).setCell ⟨W.heap.size, 3, none⟩ (.slice none 0 0)).setCell ⟨W.heap.size, 4, none⟩ (.slice none 0 0)).setCell ⟨W.heap.size, 5, none⟩ (.slice none 0 0)).setCell ⟨W.heap.size, 6, none⟩ (.slice none 0 0)).drew = W' := ⟨_, rfl⟩
          rw [hWF] at hbx HBF ⊢
          clear hWF
          have q0 : WF.cell? ⟨W.heap.size, 0, none⟩ = some (.string ⟨#[]⟩) := hbx.cell 0
          have q1 : WF.cell? ⟨W.heap.size, 1, none⟩ = some (.slice none 0 0) := hbx.cell 1
          have q2 : WF.cell? ⟨W.heap.size, 2, none⟩ = some (.slice none 0 0) := hbx.cell 2
          have q3 : WF.cell? ⟨W.heap.size, 3, none⟩ = some (.slice none 0 0) := hbx.cell 3
          have q4 : WF.cell? ⟨W.heap.size, 4, none⟩ = some (.slice none 0 0) := hbx.cell 4
          have q5 : WF.cell? ⟨W.heap.size, 5, none⟩ = some (.slice none 0 0) := hbx.cell 5
          have q6 : WF.cell? ⟨W.heap.size, 6, none⟩ = some (.slice none 0 0) := hbx.cell 6
          refine bodyPost_ret (v := .tuple #[.agg #[.string ⟨#[]⟩, .slice none 0 0, .slice none 0 0, .slice none 0 0, .slice none 0 0, .slice none 0 0, .slice none 0 0], .int .i64 ck]) ?_ rfl ⟨emptyO, rfl, HBF.out, empty_rd _, empty_fit, rfl, by decide⟩
          simp [results, Try.results8, go_sem, q0, q1, q2, q3, q4, q5, q6]
    · have hp := HPR.out
      rw [if_neg hA, if_neg hE] at hp
      simp only [Prod.mk.injEq] at hp
      obtain ⟨hp1, hp2⟩ := hp
      subst hp1
      subst hp2
      have HB5 := HB3
      go_upto_region 8 with fail
      obtain ⟨W5, hW5⟩ : ∃ W5, W3 = W5 := ⟨_, rfl⟩
      subst hW5
      have c0 : W3.cell? ⟨W.heap.size, 0, none⟩ = some (.string ⟨#[]⟩) := HBX.out.cell 0
      have z0 : W3.frozen? ⟨W.heap.size, 0, none⟩ = false := HBX.out.frozen 0
      have c1 : W3.cell? ⟨W.heap.size, 1, none⟩ = some (.slice none 0 0) := HBX.out.cell 1
      have z1 : W3.frozen? ⟨W.heap.size, 1, none⟩ = false := HBX.out.frozen 1
      have c2 : W3.cell? ⟨W.heap.size, 2, none⟩ = some (.slice none 0 0) := HBX.out.cell 2
      have z2 : W3.frozen? ⟨W.heap.size, 2, none⟩ = false := HBX.out.frozen 2
      have c3 : W3.cell? ⟨W.heap.size, 3, none⟩ = some (.slice none 0 0) := HBX.out.cell 3
      have z3 : W3.frozen? ⟨W.heap.size, 3, none⟩ = false := HBX.out.frozen 3
      have c4 : W3.cell? ⟨W.heap.size, 4, none⟩ = some (.slice none 0 0) := HBX.out.cell 4
      have z4 : W3.frozen? ⟨W.heap.size, 4, none⟩ = false := HBX.out.frozen 4
      have c5 : W3.cell? ⟨W.heap.size, 5, none⟩ = some (.slice none 0 0) := HBX.out.cell 5
      have z5 : W3.frozen? ⟨W.heap.size, 5, none⟩ = false := HBX.out.frozen 5
      have c6 : W3.cell? ⟨W.heap.size, 6, none⟩ = some (.slice none 0 0) := HBX.out.cell 6
      have z6 : W3.frozen? ⟨W.heap.size, 6, none⟩ = false := HBX.out.frozen 6
      go_region_law (fail)
      all_goals
        go_wp2_with fail
        have hbx0 : BoxN (((((((W3.setCell ⟨W.heap.size, 0, none⟩ (.string ⟨#[]⟩)).setCell ⟨W.heap.size, 1, none⟩ (.slice none 0 0)).setCell ⟨W.heap.size, 2, none⟩ (.slice none 0 0)).setCell ⟨W.heap.size, 3, none⟩ (.slice none 0 0)).setCell ⟨W.heap.size, 4, none⟩ (.slice none 0 0)).setCell ⟨W.heap.size, 5, none⟩ (.slice none 0 0)).setCell ⟨W.heap.size, 6, none⟩ (.slice none 0 0)) W.heap.size #[.string ⟨#[]⟩, .slice none 0 0, .slice none 0 0, .slice none 0 0, .slice none 0 0, .slice none 0 0, .slice none 0 0] := (((((((HBX.out.set 0 (.string ⟨#[]⟩)).set 1 (.slice none 0 0)).set 2 (.slice none 0 0)).set 3 (.slice none 0 0)).set 4 (.slice none 0 0)).set 5 (.slice none 0 0)).set 6 (.slice none 0 0))
        have hbx := boxN_drew hbx0
        clear hbx0
        have HBF := Lib.hid (show Below W.heap.size W (((((((W3.setCell ⟨W.heap.size, 0, none⟩ (.string ⟨#[]⟩)).setCell ⟨W.heap.size, 1, none⟩ (.slice none 0 0)).setCell ⟨W.heap.size, 2, none⟩ (.slice none 0 0)).setCell ⟨W.heap.size, 3, none⟩ (.slice none 0 0)).setCell ⟨W.heap.size, 4, none⟩ (.slice none 0 0)).setCell ⟨W.heap.size, 5, none⟩ (.slice none 0 0)).setCell ⟨W.heap.size, 6, none⟩ (.slice none 0 0)).drew from (below_drew (below_set (below_set (below_set (below_set (below_set (below_set (below_set HB5.out (Nat.le_refl _) (.string ⟨#[]⟩)) (Nat.le_refl _) (.slice none 0 0)) (Nat.le_refl _) (.slice none 0 0)) (Nat.le_refl _) (.slice none 0 0)) (Nat.le_refl _) (.slice none 0 0)) (Nat.le_refl _) (.slice none 0 0)) (Nat.le_refl _) (.slice none 0 0))))
        obtain ⟨WF, hWF⟩ : ∃ W', (((((((W3.setCell ⟨W.heap.size, 0, none⟩ (.string ⟨#[]⟩)).setCell ⟨W.heap.size, 1, none⟩ (.slice none 0 0)).setCell ⟨W.heap.size, 2, none⟩ (.slice none 0 0)).setCell ⟨W.heap.size, 3, none⟩ (.slice none 0 0)).setCell ⟨W.heap.size, 4, none⟩ (.slice none 0 0)).setCell ⟨W.heap.size, 5, none⟩ (.slice none 0 0)).setCell ⟨W.heap.size, 6, none⟩ (.slice none 0 0)).drew = W' := ⟨_, rfl⟩
        rw [hWF] at hbx HBF ⊢
        clear hWF
        have q0 : WF.cell? ⟨W.heap.size, 0, none⟩ = some (.string ⟨#[]⟩) := hbx.cell 0
        have q1 : WF.cell? ⟨W.heap.size, 1, none⟩ = some (.slice none 0 0) := hbx.cell 1
        have q2 : WF.cell? ⟨W.heap.size, 2, none⟩ = some (.slice none 0 0) := hbx.cell 2
        have q3 : WF.cell? ⟨W.heap.size, 3, none⟩ = some (.slice none 0 0) := hbx.cell 3
        have q4 : WF.cell? ⟨W.heap.size, 4, none⟩ = some (.slice none 0 0) := hbx.cell 4
        have q5 : WF.cell? ⟨W.heap.size, 5, none⟩ = some (.slice none 0 0) := hbx.cell 5
        have q6 : WF.cell? ⟨W.heap.size, 6, none⟩ = some (.slice none 0 0) := hbx.cell 6
        refine bodyPost_ret (v := .tuple #[.agg #[.string ⟨#[]⟩, .slice none 0 0, .slice none 0 0, .slice none 0 0, .slice none 0 0, .slice none 0 0, .slice none 0 0], .int .i64 e]) ?_ rfl ⟨emptyO, rfl, HBF.out, empty_rd _, empty_fit, rfl, by decide⟩
        simp [results, Try.results8, go_sem, q0, q1, q2, q3, q4, q5, q6]
end Go.Proofs.Ytknldomgmogccaa
