/- The document's Same: objects of one content are one. -/
import Derived.Test.YtknldomgmogccaaCgL
namespace Go.Proofs.Ytknldomgmogccaa
set_option linter.unusedVariables false
set_option linter.unusedSimpArgs false
open Go.Joins Go.ChangeShapes Go.WideShapes Go.ChangeAt Go.RowKit Go.Deep

set_option maxRecDepth 20000
theorem texts_eq (a b : Option Addr) (n c d : Nat) (l : List (List UInt8)) (w : World) (hm : l.length = n) (hl : Rd w a n (txs l)) (hr : Rd w b n (txs l)) (hn : n < 9223372036854775808) :
    Calls Try.prog 21 #[.slice a n c, .slice b n d] w fun e w' => e = .returned (.bool true) ∧ Below w.heap.size w w' := by
  have HL := Lib.hid hl
  have HR := Lib.hid hr
  have HM := Lib.hid hm
  clear hl hr hm
  go_enter Try.func21, Try.ntmps21
  go_wp2_with fail
  go_loopw [5] (fun i wr => ∃ k : Nat, i = .int .i64 k ∧ k ≤ n ∧ Hid (Below w.heap.size w wr)) (fun i _ => n - (intOf i).toNat)
  case atStart => exact ⟨0, rfl, by omega, Lib.hid (Below.refl _ _)⟩
  case round =>
    obtain ⟨k, rfl, hk, HB⟩ := hrel
    by_cases hlt : k < n
    · have hkl : k < l.length := by rw [HM.out]; exact hlt
      obtain ⟨b1, o1, rfl, _, c1⟩ := (HL.out.below HB.out).at_ hlt
      obtain ⟨b2, o2, rfl, _, c2⟩ := (HR.out.below HB.out).at_ hlt
      rw [txs_get l k hkl] at c1 c2
      obtain ⟨s, hs⟩ : ∃ s, l[k] = s := ⟨_, rfl⟩
      rw [hs] at c1 c2
      have kk0 : (0 : Int) ≤ (k : Int) := by omega
      have kk1 : (k : Int) < (n : Int) := by omega
      clear hs hkl
      go_wp2_with fail
      go_quiet (fail)
      go_wp2_with fail
      go_roundw
      case rel => exact ⟨k + 1, by go_num, by omega, Lib.hid (bTrans HB.out (below_dN _ _))⟩
      case measure => simp [intOf]; omega
    · obtain rfl : k = n := by omega
      go_wp2_with fail
      go_ret
      exact ⟨rfl, HB.out⟩
theorem numbers_eq (a b : Option Addr) (n c d : Nat) (l : List Int) (w : World) (hm : l.length = n) (hl : Rd w a n (i64s l)) (hr : Rd w b n (i64s l)) (hn : n < 9223372036854775808) :
    Calls Try.prog 22 #[.slice a n c, .slice b n d] w fun e w' => e = .returned (.bool true) ∧ Below w.heap.size w w' := by
  have HL := Lib.hid hl
  have HR := Lib.hid hr
  have HM := Lib.hid hm
  clear hl hr hm
  go_enter Try.func22, Try.ntmps22
  go_wp2_with fail
  go_loopw [5] (fun i wr => ∃ k : Nat, i = .int .i64 k ∧ k ≤ n ∧ Hid (Below w.heap.size w wr)) (fun i _ => n - (intOf i).toNat)
  case atStart => exact ⟨0, rfl, by omega, Lib.hid (Below.refl _ _)⟩
  case round =>
    obtain ⟨k, rfl, hk, HB⟩ := hrel
    by_cases hlt : k < n
    · have hkl : k < l.length := by rw [HM.out]; exact hlt
      obtain ⟨b1, o1, rfl, _, c1⟩ := (HL.out.below HB.out).at_ hlt
      obtain ⟨b2, o2, rfl, _, c2⟩ := (HR.out.below HB.out).at_ hlt
      rw [i64s_get l k hkl] at c1 c2
      obtain ⟨s, hs⟩ : ∃ s, l[k] = s := ⟨_, rfl⟩
      rw [hs] at c1 c2
      have kk0 : (0 : Int) ≤ (k : Int) := by omega
      have kk1 : (k : Int) < (n : Int) := by omega
      clear hs hkl
      go_wp2_with fail
      go_quiet (fail)
      go_wp2_with fail
      go_roundw
      case rel => exact ⟨k + 1, by go_num, by omega, Lib.hid (bTrans HB.out (below_dN _ _))⟩
      case measure => simp [intOf]; omega
    · obtain rfl : k = n := by omega
      go_wp2_with fail
      go_ret
      exact ⟨rfl, HB.out⟩
set_option maxHeartbeats 4000000 in
theorem osame_eq (o p : Ob) (w : World) (hr : RdOb w o) (hf : FitOb o) (hs : RdOb w p) (he : coreO p = coreO o) :
    Calls Try.prog 10 #[.agg (objC o).toArray, .agg (objC p).toArray] w fun e w' => e = .returned (.bool true) ∧ Below w.heap.size w w' := by
  obtain ⟨nm, nd, sg, sy, rl, ini, fin, na, nc, ga, gc, sa, sc, ra, rc, ia, ic, fa, fc⟩ := o
  obtain ⟨nm', nd', sg', sy', rl', ini', fin', na', nc', ga', gc', sa', sc', ra', rc', ia', ic', fa', fc'⟩ := p
  unfold coreO at he
  simp only [Core.mk.injEq] at he
  obtain ⟨rfl, rfl, hg, rfl, rfl, rfl, rfl⟩ := he
  obtain ⟨r1, r2, r3, r4, r5, r6, r7⟩ := hr
  obtain ⟨q1, q2, q3, q4, q5, q6, q7⟩ := hs
  obtain ⟨f0, f1, f2, f3, f4, f5, f6, f7, f8, f9, f10⟩ := hf
  unfold objC
  simp only [] at r1 r2 r3 r4 r5 r6 r7 q1 q2 q3 q4 q5 q6 q7 f0 f1 f2 f3 f4 f5 f6 f7 f8 f9 f10 ⊢
  have hgl : sg'.length = sg.length := by have := congrArg List.length hg; simpa using this
  rw [hgl]
  obtain ⟨m2, h2⟩ : ∃ m, sg.length = m := ⟨_, rfl⟩
  obtain ⟨m3, h3⟩ : ∃ m, sy'.length = m := ⟨_, rfl⟩
  obtain ⟨m4, h4⟩ : ∃ m, rl'.length = m := ⟨_, rfl⟩
  rw [h2] at hgl f3
  rw [h3] at f5
  rw [h4] at f7
  rw [h2, h3, h4]
  have HN := Lib.hid (fun W (hW : Below w.heap.size w W) => texts_eq na na' nd'.length nc nc' nd' W rfl (r1.below hW) (q1.below hW) f2)
  have HI := Lib.hid (fun W (hW : Below w.heap.size w W) => numbers_eq ia ia' ini'.length ic ic' ini' W rfl (r6.below hW) (q6.below hW) f9)
  have HF := Lib.hid (fun W (hW : Below w.heap.size w W) => numbers_eq fa fa' fin'.length fc fc' fin' W rfl (r7.below hW) (q7.below hW) f10)
  have HG1 := Lib.hid r2
  have HG2 := Lib.hid q2
  have HY1 := Lib.hid r4
  have HY2 := Lib.hid q4
  have HL1 := Lib.hid r5
  have HL2 := Lib.hid q5
  have HB1 := Lib.hid r3
  have HB2 := Lib.hid q3
  have HFG := Lib.hid f4
  have HG := Lib.hid hg
  have H2 := Lib.hid h2
  have H2' := Lib.hid hgl
  have H3 := Lib.hid h3
  have H4 := Lib.hid h4
  obtain ⟨W, hW⟩ : ∃ W, (w.alloc (.cells #[.string ⟨nm'.toArray⟩, .slice na nd'.length nc, .slice ga m2 gc, .slice sa m3 sc, .slice ra m4 rc, .slice ia ini'.length ic, .slice fa fin'.length fc] 30)).alloc (.cells #[.string ⟨nm'.toArray⟩, .slice na' nd'.length nc', .slice ga' m2 gc', .slice sa' m3 sc', .slice ra' m4 rc', .slice ia' ini'.length ic', .slice fa' fin'.length fc'] 30) = W := ⟨_, rfl⟩
  obtain ⟨A, hA⟩ : ∃ B, w.heap.size = B := ⟨_, rfl⟩
  obtain ⟨B, hB⟩ : ∃ B, A + 1 = B := ⟨_, rfl⟩
  have HA : Hid (BoxN W A #[.string ⟨nm'.toArray⟩, .slice na nd'.length nc, .slice ga m2 gc, .slice sa m3 sc, .slice ra m4 rc, .slice ia ini'.length ic, .slice fa fin'.length fc]) := Lib.hid (by rw [← hW, ← hA]; exact boxN_alloc (BoxN.new w _ _) _)
  have HB : Hid (BoxN W B #[.string ⟨nm'.toArray⟩, .slice na' nd'.length nc', .slice ga' m2 gc', .slice sa' m3 sc', .slice ra' m4 rc', .slice ia' ini'.length ic', .slice fa' fin'.length fc']) := Lib.hid (by
    have h := BoxN.new (w.alloc (.cells #[.string ⟨nm'.toArray⟩, .slice na nd'.length nc, .slice ga m2 gc, .slice sa m3 sc, .slice ra m4 rc, .slice ia ini'.length ic, .slice fa fin'.length fc] 30)) #[.string ⟨nm'.toArray⟩, .slice na' nd'.length nc', .slice ga' m2 gc', .slice sa' m3 sc', .slice ra' m4 rc', .slice ia' ini'.length ic', .slice fa' fin'.length fc'] 30
    rw [size_alloc, hA, hB, hW] at h
    exact h)
  have HBW : Hid (Below w.heap.size w W) := Lib.hid (by rw [← hW]; exact bAlloc (bAlloc (Below.refl _ _) _) _)
  have HWE := Lib.hid hW
  have HAE := Lib.hid hA
  have HBE := Lib.hid hB
  clear r1 r2 r3 r4 r5 r6 r7 q1 q2 q3 q4 q5 q6 q7 f0 f1 f2 f4 f6 f8 f9 f10 hg hgl h2 h3 h4 hW hA hB
  go_enter Try.func10, Try.ntmps10
  go_upto_region 1 with fail
  rw [HWE.out, HAE.out, HBE.out]
  clear HWE
  have x0 : W.cell? ⟨A, 0, none⟩ = some (.string ⟨nm'.toArray⟩) := HA.out.cell 0
  have x1 : W.cell? ⟨A, 1, none⟩ = some (.slice na nd'.length nc) := HA.out.cell 1
  have x2 : W.cell? ⟨A, 2, none⟩ = some (.slice ga m2 gc) := HA.out.cell 2
  have x3 : W.cell? ⟨A, 3, none⟩ = some (.slice sa m3 sc) := HA.out.cell 3
  have x4 : W.cell? ⟨A, 4, none⟩ = some (.slice ra m4 rc) := HA.out.cell 4
  have x5 : W.cell? ⟨A, 5, none⟩ = some (.slice ia ini'.length ic) := HA.out.cell 5
  have x6 : W.cell? ⟨A, 6, none⟩ = some (.slice fa fin'.length fc) := HA.out.cell 6
  have y0 : W.cell? ⟨B, 0, none⟩ = some (.string ⟨nm'.toArray⟩) := HB.out.cell 0
  have y1 : W.cell? ⟨B, 1, none⟩ = some (.slice na' nd'.length nc') := HB.out.cell 1
  have y2 : W.cell? ⟨B, 2, none⟩ = some (.slice ga' m2 gc') := HB.out.cell 2
  have y3 : W.cell? ⟨B, 3, none⟩ = some (.slice sa' m3 sc') := HB.out.cell 3
  have y4 : W.cell? ⟨B, 4, none⟩ = some (.slice ra' m4 rc') := HB.out.cell 4
  have y5 : W.cell? ⟨B, 5, none⟩ = some (.slice ia' ini'.length ic') := HB.out.cell 5
  have y6 : W.cell? ⟨B, 6, none⟩ = some (.slice fa' fin'.length fc') := HB.out.cell 6
  go_wp2_with fail
  refine (HN.out _ HBW.out).mono ?_; rintro e W1 ⟨rfl, hb⟩
  have HBW := Lib.hid (bTrans HBW.out hb)
  have HA := Lib.hid (boxN_below HA.out hb)
  have HB := Lib.hid (boxN_below HB.out hb)
  clear hb x0 y0 x1 y1 x2 y2 x3 y3 x4 y4 x5 y5 x6 y6
  have x0 : W1.cell? ⟨A, 0, none⟩ = some (.string ⟨nm'.toArray⟩) := HA.out.cell 0
  have x1 : W1.cell? ⟨A, 1, none⟩ = some (.slice na nd'.length nc) := HA.out.cell 1
  have x2 : W1.cell? ⟨A, 2, none⟩ = some (.slice ga m2 gc) := HA.out.cell 2
  have x3 : W1.cell? ⟨A, 3, none⟩ = some (.slice sa m3 sc) := HA.out.cell 3
  have x4 : W1.cell? ⟨A, 4, none⟩ = some (.slice ra m4 rc) := HA.out.cell 4
  have x5 : W1.cell? ⟨A, 5, none⟩ = some (.slice ia ini'.length ic) := HA.out.cell 5
  have x6 : W1.cell? ⟨A, 6, none⟩ = some (.slice fa fin'.length fc) := HA.out.cell 6
  have y0 : W1.cell? ⟨B, 0, none⟩ = some (.string ⟨nm'.toArray⟩) := HB.out.cell 0
  have y1 : W1.cell? ⟨B, 1, none⟩ = some (.slice na' nd'.length nc') := HB.out.cell 1
  have y2 : W1.cell? ⟨B, 2, none⟩ = some (.slice ga' m2 gc') := HB.out.cell 2
  have y3 : W1.cell? ⟨B, 3, none⟩ = some (.slice sa' m3 sc') := HB.out.cell 3
  have y4 : W1.cell? ⟨B, 4, none⟩ = some (.slice ra' m4 rc') := HB.out.cell 4
  have y5 : W1.cell? ⟨B, 5, none⟩ = some (.slice ia' ini'.length ic') := HB.out.cell 5
  have y6 : W1.cell? ⟨B, 6, none⟩ = some (.slice fa' fin'.length fc') := HB.out.cell 6
  go_wp2_with fail
  refine (HI.out _ HBW.out).mono ?_; rintro e W2 ⟨rfl, hb⟩
  have HBW := Lib.hid (bTrans HBW.out hb)
  have HA := Lib.hid (boxN_below HA.out hb)
  have HB := Lib.hid (boxN_below HB.out hb)
  clear hb x0 y0 x1 y1 x2 y2 x3 y3 x4 y4 x5 y5 x6 y6
  have x0 : W2.cell? ⟨A, 0, none⟩ = some (.string ⟨nm'.toArray⟩) := HA.out.cell 0
  have x1 : W2.cell? ⟨A, 1, none⟩ = some (.slice na nd'.length nc) := HA.out.cell 1
  have x2 : W2.cell? ⟨A, 2, none⟩ = some (.slice ga m2 gc) := HA.out.cell 2
  have x3 : W2.cell? ⟨A, 3, none⟩ = some (.slice sa m3 sc) := HA.out.cell 3
  have x4 : W2.cell? ⟨A, 4, none⟩ = some (.slice ra m4 rc) := HA.out.cell 4
  have x5 : W2.cell? ⟨A, 5, none⟩ = some (.slice ia ini'.length ic) := HA.out.cell 5
  have x6 : W2.cell? ⟨A, 6, none⟩ = some (.slice fa fin'.length fc) := HA.out.cell 6
  have y0 : W2.cell? ⟨B, 0, none⟩ = some (.string ⟨nm'.toArray⟩) := HB.out.cell 0
  have y1 : W2.cell? ⟨B, 1, none⟩ = some (.slice na' nd'.length nc') := HB.out.cell 1
  have y2 : W2.cell? ⟨B, 2, none⟩ = some (.slice ga' m2 gc') := HB.out.cell 2
  have y3 : W2.cell? ⟨B, 3, none⟩ = some (.slice sa' m3 sc') := HB.out.cell 3
  have y4 : W2.cell? ⟨B, 4, none⟩ = some (.slice ra' m4 rc') := HB.out.cell 4
  have y5 : W2.cell? ⟨B, 5, none⟩ = some (.slice ia' ini'.length ic') := HB.out.cell 5
  have y6 : W2.cell? ⟨B, 6, none⟩ = some (.slice fa' fin'.length fc') := HB.out.cell 6
  go_wp2_with fail
  refine (HF.out _ HBW.out).mono ?_; rintro e W3 ⟨rfl, hb⟩
  have HBW := Lib.hid (bTrans HBW.out hb)
  have HA := Lib.hid (boxN_below HA.out hb)
  have HB := Lib.hid (boxN_below HB.out hb)
  clear hb x0 y0 x1 y1 x2 y2 x3 y3 x4 y4 x5 y5 x6 y6
  have x0 : W3.cell? ⟨A, 0, none⟩ = some (.string ⟨nm'.toArray⟩) := HA.out.cell 0
  have x1 : W3.cell? ⟨A, 1, none⟩ = some (.slice na nd'.length nc) := HA.out.cell 1
  have x2 : W3.cell? ⟨A, 2, none⟩ = some (.slice ga m2 gc) := HA.out.cell 2
  have x3 : W3.cell? ⟨A, 3, none⟩ = some (.slice sa m3 sc) := HA.out.cell 3
  have x4 : W3.cell? ⟨A, 4, none⟩ = some (.slice ra m4 rc) := HA.out.cell 4
  have x5 : W3.cell? ⟨A, 5, none⟩ = some (.slice ia ini'.length ic) := HA.out.cell 5
  have x6 : W3.cell? ⟨A, 6, none⟩ = some (.slice fa fin'.length fc) := HA.out.cell 6
  have y0 : W3.cell? ⟨B, 0, none⟩ = some (.string ⟨nm'.toArray⟩) := HB.out.cell 0
  have y1 : W3.cell? ⟨B, 1, none⟩ = some (.slice na' nd'.length nc') := HB.out.cell 1
  have y2 : W3.cell? ⟨B, 2, none⟩ = some (.slice ga' m2 gc') := HB.out.cell 2
  have y3 : W3.cell? ⟨B, 3, none⟩ = some (.slice sa' m3 sc') := HB.out.cell 3
  have y4 : W3.cell? ⟨B, 4, none⟩ = some (.slice ra' m4 rc') := HB.out.cell 4
  have y5 : W3.cell? ⟨B, 5, none⟩ = some (.slice ia' ini'.length ic') := HB.out.cell 5
  have y6 : W3.cell? ⟨B, 6, none⟩ = some (.slice fa' fin'.length fc') := HB.out.cell 6
  go_wp2_with fail
  go_loopw [8] (fun i wr => ∃ k : Nat, i = .int .i64 k ∧ k ≤ m2 ∧ Hid (Below w.heap.size w wr) ∧ Hid (BoxN wr A #[.string ⟨nm'.toArray⟩, .slice na nd'.length nc, .slice ga m2 gc, .slice sa m3 sc, .slice ra m4 rc, .slice ia ini'.length ic, .slice fa fin'.length fc]) ∧ Hid (BoxN wr B #[.string ⟨nm'.toArray⟩, .slice na' nd'.length nc', .slice ga' m2 gc', .slice sa' m3 sc', .slice ra' m4 rc', .slice ia' ini'.length ic', .slice fa' fin'.length fc'])) (fun i _ => m2 - (intOf i).toNat)
  case atStart => exact ⟨0, rfl, by omega, HBW, HA, HB⟩
  case round =>
    clear HA HB x0 y0 x1 y1 x2 y2 x3 y3 x4 y4 x5 y5 x6 y6
    obtain ⟨k, rfl, hk, HBR, HA, HB⟩ := hrel
    have x0 : wr.cell? ⟨A, 0, none⟩ = some (.string ⟨nm'.toArray⟩) := HA.out.cell 0
    have x1 : wr.cell? ⟨A, 1, none⟩ = some (.slice na nd'.length nc) := HA.out.cell 1
    have x2 : wr.cell? ⟨A, 2, none⟩ = some (.slice ga m2 gc) := HA.out.cell 2
    have x3 : wr.cell? ⟨A, 3, none⟩ = some (.slice sa m3 sc) := HA.out.cell 3
    have x4 : wr.cell? ⟨A, 4, none⟩ = some (.slice ra m4 rc) := HA.out.cell 4
    have x5 : wr.cell? ⟨A, 5, none⟩ = some (.slice ia ini'.length ic) := HA.out.cell 5
    have x6 : wr.cell? ⟨A, 6, none⟩ = some (.slice fa fin'.length fc) := HA.out.cell 6
    have y0 : wr.cell? ⟨B, 0, none⟩ = some (.string ⟨nm'.toArray⟩) := HB.out.cell 0
    have y1 : wr.cell? ⟨B, 1, none⟩ = some (.slice na' nd'.length nc') := HB.out.cell 1
    have y2 : wr.cell? ⟨B, 2, none⟩ = some (.slice ga' m2 gc') := HB.out.cell 2
    have y3 : wr.cell? ⟨B, 3, none⟩ = some (.slice sa' m3 sc') := HB.out.cell 3
    have y4 : wr.cell? ⟨B, 4, none⟩ = some (.slice ra' m4 rc') := HB.out.cell 4
    have y5 : wr.cell? ⟨B, 5, none⟩ = some (.slice ia' ini'.length ic') := HB.out.cell 5
    have y6 : wr.cell? ⟨B, 6, none⟩ = some (.slice fa' fin'.length fc') := HB.out.cell 6
    by_cases hlt : k < m2
    · have hkl : k < sg.length := by rw [H2.out]; exact hlt
      have hkl' : k < sg'.length := by rw [H2'.out]; exact hlt
      obtain ⟨b1, o1, rfl, hb1, c0, c1, c2, c3⟩ := (HG1.out.below HBR.out).at_ hkl
      obtain ⟨b2, o2, rfl, hb2, d0, d1, d2, d3⟩ := (HG2.out.below HBR.out).at_ hkl'
      have hcg : coreG sg'[k] = coreG sg[k] := by
        have h1 : (sg'.map coreG)[k]'(by simpa using hkl') = (sg.map coreG)[k]'(by simpa using hkl) := by simp only [HG.out]
        simpa using h1
      have hby1 := HB1.out _ (List.getElem_mem hkl)
      have hby2 := HB2.out _ (List.getElem_mem hkl')
      have hfl := (HFG.out _ (List.getElem_mem hkl)).2.2
      obtain ⟨s, hs⟩ : ∃ s, sg[k] = s := ⟨_, rfl⟩
      obtain ⟨s', hs'⟩ : ∃ s, sg'[k] = s := ⟨_, rfl⟩
      rw [hs] at c0 c1 c2 c3 hcg hby1 hfl
      rw [hs'] at d0 d1 d2 d3 hcg hby2
      obtain ⟨p, z, f, by_, ba, bc⟩ := s
      obtain ⟨p', z', f', by', ba', bc'⟩ := s'
      simp only [coreG, Prod.mk.injEq] at hcg
      obtain ⟨rfl, rfl, rfl, rfl⟩ := hcg
      simp only [] at c0 c1 c2 c3 d0 d1 d2 d3 hby1 hby2 hfl
      obtain ⟨m, hm⟩ : ∃ m, by'.length = m := ⟨_, rfl⟩
      have hnl : (nats by').length = m := by rw [nats, List.length_map, hm]
      rw [hm] at c3 d3 hby1 hby2 hfl
      rw [u8v_nats] at hby1 hby2
      have HS := Lib.hid (fun W (hW : Below w.heap.size w W) => same_any ba ba' m bc m bc' (nats by') (nats by') W (hby1.below hW) (hby2.below hW) (by omega) (by omega))
      obtain ⟨C, hC⟩ : ∃ C, wr.heap.size = C := ⟨_, rfl⟩
      obtain ⟨U1, hU1⟩ : ∃ U, wr.alloc (.cells #[.int .u64 p', .int .u64 z', .int .i64 f', .slice ba m bc] 39) = U := ⟨_, rfl⟩
      obtain ⟨U2, hU2⟩ : ∃ U, U1.alloc (.cells #[.int .u64 p', .int .u64 z', .int .i64 f', .slice ba' m bc'] 39) = U := ⟨_, rfl⟩
      have hz1 : U1.heap.size = C + 1 := by rw [← hU1, size_alloc, hC]
      have HU1 : Hid (BoxN U2 C #[.int .u64 p', .int .u64 z', .int .i64 f', .slice ba m bc]) := Lib.hid (by rw [← hU2, ← hU1, ← hC]; exact boxN_alloc (BoxN.new wr _ _) _)
      have HU2 : Hid (BoxN U2 (C + 1) #[.int .u64 p', .int .u64 z', .int .i64 f', .slice ba' m bc']) := Lib.hid (by rw [← hU2, ← hz1]; exact BoxN.new U1 _ _)
      have HBU1 : Hid (Below wr.heap.size wr U1) := Lib.hid (by rw [← hU1]; exact bAlloc (Below.refl _ _) _)
      have HBU : Hid (Below wr.heap.size wr U2) := Lib.hid (bTrans HBU1.out (by rw [← hU2]; exact bAlloc (Below.refl _ _) _))
      have HZ1 := Lib.hid hz1
      have HC := Lib.hid hC
      have HUU1 := Lib.hid hU1
      have HUU2 := Lib.hid hU2
      have kk0 : (0 : Int) ≤ (k : Int) := by omega
      have kk1 : (k : Int) < (m2 : Int) := by omega
      clear hs hs' hkl hkl' hby1 hby2 hfl hm hnl hC hU1 hU2 hz1
      have e0 : U1.cell? ⟨b2, o2 + k * 4, none⟩ = some (.int .u64 p') := (HBU1.out.cell (p := ⟨b2, o2 + k * 4, none⟩) hb2).trans d0
      have e1 : U1.cell? ⟨b2, o2 + k * 4 + 1, none⟩ = some (.int .u64 z') := (HBU1.out.cell (p := ⟨b2, o2 + k * 4 + 1, none⟩) hb2).trans d1
      have e2 : U1.cell? ⟨b2, o2 + k * 4 + 2, none⟩ = some (.int .i64 f') := (HBU1.out.cell (p := ⟨b2, o2 + k * 4 + 2, none⟩) hb2).trans d2
      have e3 : U1.cell? ⟨b2, o2 + k * 4 + 3, none⟩ = some (.slice ba' m bc') := (HBU1.out.cell (p := ⟨b2, o2 + k * 4 + 3, none⟩) hb2).trans d3
      have yU : U1.cell? ⟨B, 2, none⟩ = some (.slice (some ⟨b2, o2, none⟩) m2 gc') := (boxN_below HB.out HBU1.out).cell 2
      clear d0 d1 d2 d3
      go_upto_region 10 with fail
      rw [HUU1.out, HC.out]
      have HA := Lib.hid (boxN_below HA.out HBU.out)
      have HB := Lib.hid (boxN_below HB.out HBU.out)
      clear x0 y0 x1 y1 x2 y2 x3 y3 x4 y4 x5 y5 x6 y6 c0 c1 c2 c3
      go_upto_region 11 with fail
      rw [HUU2.out, HZ1.out]
      clear e0 e1 e2 e3 yU
      have u0 : U2.cell? ⟨C, 0, none⟩ = some (.int .u64 p') := HU1.out.cell 0
      have u1 : U2.cell? ⟨C, 1, none⟩ = some (.int .u64 z') := HU1.out.cell 1
      have u2 : U2.cell? ⟨C, 2, none⟩ = some (.int .i64 f') := HU1.out.cell 2
      have u3 : U2.cell? ⟨C, 3, none⟩ = some (.slice ba m bc) := HU1.out.cell 3
      have v0 : U2.cell? ⟨C + 1, 0, none⟩ = some (.int .u64 p') := HU2.out.cell 0
      have v1 : U2.cell? ⟨C + 1, 1, none⟩ = some (.int .u64 z') := HU2.out.cell 1
      have v2 : U2.cell? ⟨C + 1, 2, none⟩ = some (.int .i64 f') := HU2.out.cell 2
      have v3 : U2.cell? ⟨C + 1, 3, none⟩ = some (.slice ba' m bc') := HU2.out.cell 3
      have HBT := Lib.hid (bTrans HBR.out HBU.out)
      go_wp2_with fail
      refine (HS.out _ HBT.out).mono ?_; rintro e W5 ⟨rfl, nq, rfl⟩
      rw [show decide True = true from rfl]
      go_wp2_with fail
      go_roundw
      case rel => exact ⟨k + 1, by go_num, by omega, Lib.hid (bTrans HBT.out (below_dN _ _)), Lib.hid (boxN_below HA.out (below_dN _ _)), Lib.hid (boxN_below HB.out (below_dN _ _))⟩
      case measure => simp [intOf]; omega
    · obtain rfl : m2 = k := by omega
      go_wp2_with fail
      go_loopw [11] (fun i wr => ∃ k : Nat, i = .int .i64 k ∧ k ≤ m3 ∧ Hid (Below w.heap.size w wr) ∧ Hid (BoxN wr A #[.string ⟨nm'.toArray⟩, .slice na nd'.length nc, .slice ga m2 gc, .slice sa m3 sc, .slice ra m4 rc, .slice ia ini'.length ic, .slice fa fin'.length fc]) ∧ Hid (BoxN wr B #[.string ⟨nm'.toArray⟩, .slice na' nd'.length nc', .slice ga' m2 gc', .slice sa' m3 sc', .slice ra' m4 rc', .slice ia' ini'.length ic', .slice fa' fin'.length fc'])) (fun i _ => m3 - (intOf i).toNat)
      case atStart => exact ⟨0, rfl, by omega, HBR, HA, HB⟩
      case round =>
        clear HA HB HBR x0 y0 x1 y1 x2 y2 x3 y3 x4 y4 x5 y5 x6 y6
        obtain ⟨k, rfl, hk, HBR, HA, HB⟩ := hrel
        have x0 : wr.cell? ⟨A, 0, none⟩ = some (.string ⟨nm'.toArray⟩) := HA.out.cell 0
        have x1 : wr.cell? ⟨A, 1, none⟩ = some (.slice na nd'.length nc) := HA.out.cell 1
        have x2 : wr.cell? ⟨A, 2, none⟩ = some (.slice ga m2 gc) := HA.out.cell 2
        have x3 : wr.cell? ⟨A, 3, none⟩ = some (.slice sa m3 sc) := HA.out.cell 3
        have x4 : wr.cell? ⟨A, 4, none⟩ = some (.slice ra m4 rc) := HA.out.cell 4
        have x5 : wr.cell? ⟨A, 5, none⟩ = some (.slice ia ini'.length ic) := HA.out.cell 5
        have x6 : wr.cell? ⟨A, 6, none⟩ = some (.slice fa fin'.length fc) := HA.out.cell 6
        have y0 : wr.cell? ⟨B, 0, none⟩ = some (.string ⟨nm'.toArray⟩) := HB.out.cell 0
        have y1 : wr.cell? ⟨B, 1, none⟩ = some (.slice na' nd'.length nc') := HB.out.cell 1
        have y2 : wr.cell? ⟨B, 2, none⟩ = some (.slice ga' m2 gc') := HB.out.cell 2
        have y3 : wr.cell? ⟨B, 3, none⟩ = some (.slice sa' m3 sc') := HB.out.cell 3
        have y4 : wr.cell? ⟨B, 4, none⟩ = some (.slice ra' m4 rc') := HB.out.cell 4
        have y5 : wr.cell? ⟨B, 5, none⟩ = some (.slice ia' ini'.length ic') := HB.out.cell 5
        have y6 : wr.cell? ⟨B, 6, none⟩ = some (.slice fa' fin'.length fc') := HB.out.cell 6
        by_cases hlt : k < m3
        · have hkl : k < sy'.length := by rw [H3.out]; exact hlt
          obtain ⟨b1, o1, rfl, hb1, c0, c1, c2, c3, c4, c5, c6, c7⟩ := (HY1.out.below HBR.out).at_ hkl
          obtain ⟨b2, o2, rfl, hb2, d0, d1, d2, d3, d4, d5, d6, d7⟩ := (HY2.out.below HBR.out).at_ hkl
          obtain ⟨s, hs⟩ : ∃ s, sy'[k] = s := ⟨_, rfl⟩
          rw [hs] at c0 c1 c2 c3 c4 c5 c6 c7 d0 d1 d2 d3 d4 d5 d6 d7
          have kk0 : (0 : Int) ≤ (k : Int) := by omega
          have kk1 : (k : Int) < (m3 : Int) := by omega
          clear hs hkl
          go_wp2_with fail
          go_quiet (fail)
          go_wp2_with fail
          go_roundw
          case rel => exact ⟨k + 1, by go_num, by omega, Lib.hid (bTrans HBR.out (below_dN _ _)), Lib.hid (boxN_below HA.out (below_dN _ _)), Lib.hid (boxN_below HB.out (below_dN _ _))⟩
          case measure => simp [intOf]; omega
        · obtain rfl : m3 = k := by omega
          go_wp2_with fail
          go_loopw [12] (fun i wr => ∃ k : Nat, i = .int .i64 k ∧ k ≤ m4 ∧ Hid (Below w.heap.size w wr) ∧ Hid (BoxN wr A #[.string ⟨nm'.toArray⟩, .slice na nd'.length nc, .slice ga m2 gc, .slice sa m3 sc, .slice ra m4 rc, .slice ia ini'.length ic, .slice fa fin'.length fc]) ∧ Hid (BoxN wr B #[.string ⟨nm'.toArray⟩, .slice na' nd'.length nc', .slice ga' m2 gc', .slice sa' m3 sc', .slice ra' m4 rc', .slice ia' ini'.length ic', .slice fa' fin'.length fc'])) (fun i _ => m4 - (intOf i).toNat)
          case atStart => exact ⟨0, rfl, by omega, HBR, HA, HB⟩
          case round =>
            clear HA HB HBR x0 y0 x1 y1 x2 y2 x3 y3 x4 y4 x5 y5 x6 y6
            obtain ⟨k, rfl, hk, HBR, HA, HB⟩ := hrel
            have x0 : wr.cell? ⟨A, 0, none⟩ = some (.string ⟨nm'.toArray⟩) := HA.out.cell 0
            have x1 : wr.cell? ⟨A, 1, none⟩ = some (.slice na nd'.length nc) := HA.out.cell 1
            have x2 : wr.cell? ⟨A, 2, none⟩ = some (.slice ga m2 gc) := HA.out.cell 2
            have x3 : wr.cell? ⟨A, 3, none⟩ = some (.slice sa m3 sc) := HA.out.cell 3
            have x4 : wr.cell? ⟨A, 4, none⟩ = some (.slice ra m4 rc) := HA.out.cell 4
            have x5 : wr.cell? ⟨A, 5, none⟩ = some (.slice ia ini'.length ic) := HA.out.cell 5
            have x6 : wr.cell? ⟨A, 6, none⟩ = some (.slice fa fin'.length fc) := HA.out.cell 6
            have y0 : wr.cell? ⟨B, 0, none⟩ = some (.string ⟨nm'.toArray⟩) := HB.out.cell 0
            have y1 : wr.cell? ⟨B, 1, none⟩ = some (.slice na' nd'.length nc') := HB.out.cell 1
            have y2 : wr.cell? ⟨B, 2, none⟩ = some (.slice ga' m2 gc') := HB.out.cell 2
            have y3 : wr.cell? ⟨B, 3, none⟩ = some (.slice sa' m3 sc') := HB.out.cell 3
            have y4 : wr.cell? ⟨B, 4, none⟩ = some (.slice ra' m4 rc') := HB.out.cell 4
            have y5 : wr.cell? ⟨B, 5, none⟩ = some (.slice ia' ini'.length ic') := HB.out.cell 5
            have y6 : wr.cell? ⟨B, 6, none⟩ = some (.slice fa' fin'.length fc') := HB.out.cell 6
            by_cases hlt : k < m4
            · have hkl : k < rl'.length := by rw [H4.out]; exact hlt
              obtain ⟨b1, o1, rfl, hb1, c0, c1⟩ := (HL1.out.below HBR.out).at_ hkl
              obtain ⟨b2, o2, rfl, hb2, d0, d1⟩ := (HL2.out.below HBR.out).at_ hkl
              obtain ⟨s, hs⟩ : ∃ s, rl'[k] = s := ⟨_, rfl⟩
              rw [hs] at c0 c1 d0 d1
              have kk0 : (0 : Int) ≤ (k : Int) := by omega
              have kk1 : (k : Int) < (m4 : Int) := by omega
              clear hs hkl
              go_wp2_with fail
              go_quiet (fail)
              go_wp2_with fail
              go_roundw
              case rel => exact ⟨k + 1, by go_num, by omega, Lib.hid (bTrans HBR.out (below_dN _ _)), Lib.hid (boxN_below HA.out (below_dN _ _)), Lib.hid (boxN_below HB.out (below_dN _ _))⟩
              case measure => simp [intOf]; omega
            · obtain rfl : m4 = k := by omega
              go_wp2_with fail
              go_ret
              exact ⟨rfl, HBR.out⟩
end Go.Proofs.Ytknldomgmogccaa
