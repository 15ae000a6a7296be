/- The document's Check: contract. -/
import Derived.Test.YtidnojjhchmmgaaCgI
import Derived.Deep.CutBlock
namespace Go.Proofs.Ytidnojjhchmmgaa
set_option linter.unusedVariables false
set_option linter.unusedSimpArgs false
open Go.Joins Go.ChangeShapes Go.WideShapes Go.ChangeAt Go.RowKit Go.Deep

set_option maxHeartbeats 4000000 in
set_option maxRecDepth 100000 in
theorem rcheck_any (o : Ob) (w : World) (hr : RdOb w o) (hf : FitOb o) :
    Calls Try.prog 15 #[.agg (objC o).toArray] w fun e w' => e = .returned (.int .i64 (checkF o)) ∧ Below w.heap.size w w' := by
  obtain ⟨r, hrr⟩ : ∃ r, checkF o = r := ⟨_, rfl⟩
  rw [hrr]
  unfold checkF at hrr
  obtain ⟨nm, nd, sg, sy, rl, ini, fin, na, nc, ga, gc, sa, sc, ra, rc, ia, ic, fa, fc⟩ := o
  obtain ⟨r1, r2, -, r4, r5, r6, r7⟩ := hr
  obtain ⟨f0, f1, f2, f3, f4, f5, f6, f7, f8, f9, f10⟩ := hf
  unfold objC
  simp only [] at r1 r2 r4 r5 r6 r7 f0 f1 f2 f3 f4 f5 f6 f7 f8 f9 f10 hrr ⊢
  obtain ⟨m1, h1⟩ : ∃ m, nd.length = m := ⟨_, rfl⟩
  obtain ⟨m2, h2⟩ : ∃ m, sg.length = m := ⟨_, rfl⟩
  obtain ⟨m3, h3⟩ : ∃ m, sy.length = m := ⟨_, rfl⟩
  obtain ⟨m4, h4⟩ : ∃ m, rl.length = m := ⟨_, rfl⟩
  obtain ⟨m5, h5⟩ : ∃ m, ini.length = m := ⟨_, rfl⟩
  obtain ⟨m6, h6⟩ : ∃ m, fin.length = m := ⟨_, rfl⟩
  rw [h1] at f2
  rw [h2] at f3
  rw [h3] at f5
  rw [h4] at f7
  rw [h5] at f9
  rw [h6] at f10
  rw [h1] at r1
  rw [h5] at r6
  rw [h6] at r7
  have hq1 : namesB ⟨nm, nd, sg, sy, rl, ini, fin, na, nc, ga, gc, sa, sc, ra, rc, ia, ic, fa, fc⟩ = (nameB nm && needsB nm nd 0) := rfl
  have hq2 : countsB ⟨nm, nd, sg, sy, rl, ini, fin, na, nc, ga, gc, sa, sc, ra, rc, ia, ic, fa, fc⟩ = (decide (nd.length ≤ 8) && (decide (sg.length ≤ 6) && (decide (sy.length ≤ 40) && (decide (rl.length ≤ 60) && (decide (ini.length ≤ 8) && decide (fin.length ≤ 8)))))) := rfl
  rw [hq1, hq2, h1, h2, h3, h4, h5, h6] at hrr
  simp only [h1, h2, h3, h4, h5, h6]
  have hsg2 : ∀ s ∈ sg, u64B s.place ∧ u64B s.size := fun s hs => ⟨(f4 s hs).1, (f4 s hs).2.1⟩
  have HNM := Lib.hid (fun W (hW : Below w.heap.size w W) => rnames_any (.slice ga m2 gc) (.slice sa m3 sc) (.slice ra m4 rc) (.slice ia m5 ic) (.slice fa m6 fc) na m1 nc nm nd W h1 (r1.below hW) f2 f0 f1)
  have HSG := Lib.hid (fun W (hW : Below w.heap.size w W) => rsegs_any ga m2 gc sg W h2 (r2.below hW) f3 f4)
  have HSY := Lib.hid (fun W (hW : Below w.heap.size w W) s (hs : s ∈ sy) => rsym_any (.string ⟨nm.toArray⟩) (.slice na m1 nc) (.slice sa m3 sc) (.slice ra m4 rc) (.slice ia m5 ic) (.slice fa m6 fc) ga m2 gc sg s W h2 (r2.below hW) f3 hsg2 (f6 s hs))
  have HRL := Lib.hid (fun (hsb : segsB 0 sg = true) W (hW : Below w.heap.size w W) => rrelocs_any (.string ⟨nm.toArray⟩) (.slice na m1 nc) (.slice ia m5 ic) (.slice fa m6 fc) ga sa ra m2 gc m3 sc m4 rc sg sy rl W h2 h3 h4 (r2.below hW) (r4.below hW) (r5.below hW) f3 f5 f7 hsb hsg2 f8)
  have HL1 := Lib.hid (fun W (hW : Below w.heap.size w W) => rlists_any (.string ⟨nm.toArray⟩) (.slice na m1 nc) (.slice ga m2 gc) (.slice ra m4 rc) (.slice ia m5 ic) (.slice fa m6 fc) sa ia m3 sc m5 ic sy ini W h3 h5 (r4.below hW) (r6.below hW) f5 f9)
  have HL2 := Lib.hid (fun W (hW : Below w.heap.size w W) => rlists_any (.string ⟨nm.toArray⟩) (.slice na m1 nc) (.slice ga m2 gc) (.slice ra m4 rc) (.slice ia m5 ic) (.slice fa m6 fc) sa fa m3 sc m6 fc sy fin W h3 h6 (r4.below hW) (r7.below hW) f5 f10)
  have HS := Lib.hid r4
  have H3 := Lib.hid h3
  have ht := Lib.hid (fun k (h : k < sy.length) => all_take (symB sg) sy k h)
  have hmi := Lib.hid (fun k (h : k < sy.length) => all_miss (symB sg) sy k h)
  have HF6 := Lib.hid f6
  obtain ⟨q1, hq1'⟩ : ∃ q, (nameB nm && needsB nm nd 0) = q := ⟨_, rfl⟩
  obtain ⟨q2, hq2'⟩ : ∃ q, (decide (m1 ≤ 8) && (decide (m2 ≤ 6) && (decide (m3 ≤ 40) && (decide (m4 ≤ 60) && (decide (m5 ≤ 8) && decide (m6 ≤ 8)))))) = q := ⟨_, rfl⟩
  obtain ⟨q3, hq3⟩ : ∃ q, segsB 0 sg = q := ⟨_, rfl⟩
  obtain ⟨q4, hq4⟩ : ∃ q, sy.all (symB sg) = q := ⟨_, rfl⟩
  obtain ⟨q5, hq5⟩ : ∃ q, relsB sg sy 0 rl = q := ⟨_, rfl⟩
  obtain ⟨q6, hq6⟩ : ∃ q, ini.all (fnB sy) = q := ⟨_, rfl⟩
  obtain ⟨q7, hq7⟩ : ∃ q, fin.all (fnB sy) = q := ⟨_, rfl⟩
  rw [hq1', hq2', hq3, hq4, hq5, hq6, hq7] at hrr
  rw [hq1'] at HNM
  rw [hq3] at HSG
  simp only [hq3, hq5] at HRL
  rw [hq6] at HL1
  rw [hq7] at HL2
  have HR := Lib.hid hrr
  have HQ2 := Lib.hid hq2'
  have HQ4 := Lib.hid hq4
  obtain ⟨W, hW⟩ : ∃ W, w.alloc (.cells #[.string ⟨nm.toArray⟩, .slice na m1 nc, .slice ga m2 gc, .slice sa m3 sc, .slice ra m4 rc, .slice ia m5 ic, .slice fa m6 fc] 28) = W := ⟨_, rfl⟩
  obtain ⟨B, hB⟩ : ∃ B, w.heap.size = B := ⟨_, rfl⟩
  have HX : Hid (BoxN W B #[.string ⟨nm.toArray⟩, .slice na m1 nc, .slice ga m2 gc, .slice sa m3 sc, .slice ra m4 rc, .slice ia m5 ic, .slice fa m6 fc]) := Lib.hid (by rw [← hW, ← hB]; exact BoxN.new w _ _)
  have HB : Hid (Below w.heap.size w W) := Lib.hid (by rw [← hW]; exact bAlloc (Below.refl _ _) _)
  have HW := Lib.hid hW
  have HBE := Lib.hid hB
  clear hrr hq1 hq2 hq1' hq2' hq3 hq4 hq5 hq6 hq7 h1 h2 h3 h4 h5 h6 r1 r2 r4 r5 r6 r7 f0 f1 f4 f6 f8 hsg2 hW hB
  go_enter Try.func15, Try.ntmps15
  go_upto_region 1 with fail
  rw [HW.out, HBE.out]
  clear HW
  have e0 : W.cell? ⟨B, 0, none⟩ = some (.string ⟨nm.toArray⟩) := HX.out.cell 0
  have e1 : W.cell? ⟨B, 1, none⟩ = some (.slice na m1 nc) := HX.out.cell 1
  have e2 : W.cell? ⟨B, 2, none⟩ = some (.slice ga m2 gc) := HX.out.cell 2
  have e3 : W.cell? ⟨B, 3, none⟩ = some (.slice sa m3 sc) := HX.out.cell 3
  have e4 : W.cell? ⟨B, 4, none⟩ = some (.slice ra m4 rc) := HX.out.cell 4
  have e5 : W.cell? ⟨B, 5, none⟩ = some (.slice ia m5 ic) := HX.out.cell 5
  have e6 : W.cell? ⟨B, 6, none⟩ = some (.slice fa m6 fc) := HX.out.cell 6
  go_wp2_with fail
  refine (HNM.out W HB.out).mono ?_; rintro e W1 ⟨rfl, hb'⟩
  have HX := Lib.hid (boxN_below HX.out hb')
  have HB := Lib.hid (bTrans HB.out hb')
  clear hb'
  clear e0 e1 e2 e3 e4 e5 e6
  have e0 : W1.cell? ⟨B, 0, none⟩ = some (.string ⟨nm.toArray⟩) := HX.out.cell 0
  have e1 : W1.cell? ⟨B, 1, none⟩ = some (.slice na m1 nc) := HX.out.cell 1
  have e2 : W1.cell? ⟨B, 2, none⟩ = some (.slice ga m2 gc) := HX.out.cell 2
  have e3 : W1.cell? ⟨B, 3, none⟩ = some (.slice sa m3 sc) := HX.out.cell 3
  have e4 : W1.cell? ⟨B, 4, none⟩ = some (.slice ra m4 rc) := HX.out.cell 4
  have e5 : W1.cell? ⟨B, 5, none⟩ = some (.slice ia m5 ic) := HX.out.cell 5
  have e6 : W1.cell? ⟨B, 6, none⟩ = some (.slice fa m6 fc) := HX.out.cell 6
  cases q1 with
  | false =>
    have hrf : 103 = r := HR.out
    subst hrf
    go_wp2_with fail
    go_ret
    exact ⟨rfl, HB.out⟩
  | true =>
    go_upto_region 4 with fail
    go_cut [47] from 10 (fun s47 wd => s47 = .bool (!q2) ∧ wd = W1)
    case first =>
      go_wp2_with fail
      all_goals
        go_meet
        case rel =>
          refine ⟨?_, rfl⟩
          congr 1
          rw [← HQ2.out, Bool.eq_iff_iff]
          simp
          try omega
    case rest =>
      obtain ⟨rfl, rfl⟩ := hcut
      cases q2 with
      | false =>
        have hrf : 104 = r := HR.out
        subst hrf
        go_wp2_with fail
        go_ret
        exact ⟨rfl, HB.out⟩
      | true =>
        go_wp2_with fail
        refine (HSG.out wc HB.out).mono ?_; rintro e W3 ⟨rfl, hb'⟩
        have HX := Lib.hid (boxN_below HX.out hb')
        have HB := Lib.hid (bTrans HB.out hb')
        clear hb'
        clear e0 e1 e2 e3 e4 e5 e6
        have e0 : W3.cell? ⟨B, 0, none⟩ = some (.string ⟨nm.toArray⟩) := HX.out.cell 0
        have e1 : W3.cell? ⟨B, 1, none⟩ = some (.slice na m1 nc) := HX.out.cell 1
        have e2 : W3.cell? ⟨B, 2, none⟩ = some (.slice ga m2 gc) := HX.out.cell 2
        have e3 : W3.cell? ⟨B, 3, none⟩ = some (.slice sa m3 sc) := HX.out.cell 3
        have e4 : W3.cell? ⟨B, 4, none⟩ = some (.slice ra m4 rc) := HX.out.cell 4
        have e5 : W3.cell? ⟨B, 5, none⟩ = some (.slice ia m5 ic) := HX.out.cell 5
        have e6 : W3.cell? ⟨B, 6, none⟩ = some (.slice fa m6 fc) := HX.out.cell 6
        cases q3 with
        | false =>
          have hrf : 105 = r := HR.out
          subst hrf
          go_wp2_with fail
          go_ret
          exact ⟨rfl, HB.out⟩
        | true =>
          have HR4 : Hid ((if !q4 then 106 else if !q5 then 107 else if !(q6 && q7) then 108 else 0) = r) := Lib.hid HR.out
          clear HR
          go_upto_block 0 with fail
          go_cut [5] from 10 (fun s5 wd => q4 = true ∧ Hid (Below w.heap.size w wd) ∧ Hid (BoxN wd B #[.string ⟨nm.toArray⟩, .slice na m1 nc, .slice ga m2 gc, .slice sa m3 sc, .slice ra m4 rc, .slice ia m5 ic, .slice fa m6 fc]))
          case first =>
            go_wp2_with fail
            go_loopw [5] (fun i wr => ∃ k : Nat, i = .int .i64 k ∧ k ≤ m3 ∧ Hid ((sy.take k).all (symB sg) = true) ∧ Hid (Below w.heap.size w wr) ∧ Hid (BoxN wr B #[.string ⟨nm.toArray⟩, .slice na m1 nc, .slice ga m2 gc, .slice sa m3 sc, .slice ra m4 rc, .slice ia m5 ic, .slice fa m6 fc])) (fun i _ => m3 - (intOf i).toNat)
            case atStart => exact ⟨0, rfl, by omega, Lib.hid rfl, HB, HX⟩
            case round =>
              clear HB HX e0 e1 e2 e3 e4 e5 e6
              obtain ⟨k, rfl, hk, HQ, HB, HX⟩ := hrel
              have e0 : wr.cell? ⟨B, 0, none⟩ = some (.string ⟨nm.toArray⟩) := HX.out.cell 0
              have e1 : wr.cell? ⟨B, 1, none⟩ = some (.slice na m1 nc) := HX.out.cell 1
              have e2 : wr.cell? ⟨B, 2, none⟩ = some (.slice ga m2 gc) := HX.out.cell 2
              have e3 : wr.cell? ⟨B, 3, none⟩ = some (.slice sa m3 sc) := HX.out.cell 3
              have e4 : wr.cell? ⟨B, 4, none⟩ = some (.slice ra m4 rc) := HX.out.cell 4
              have e5 : wr.cell? ⟨B, 5, none⟩ = some (.slice ia m5 ic) := HX.out.cell 5
              have e6 : wr.cell? ⟨B, 6, none⟩ = some (.slice fa m6 fc) := HX.out.cell 6
              by_cases hlt : k < m3
              · have hkl : k < sy.length := by rw [H3.out]; exact hlt
                obtain ⟨g, off, hge, -, s0, s1, s2, s3, s4, s5, s6, s7⟩ := (HS.out.below HB.out).at_ hkl
                subst hge
                have HT := Lib.hid (ht.out k hkl)
                have HMI := Lib.hid (hmi.out k hkl)
                have HC := Lib.hid (fun W hW => HSY.out W hW _ (List.getElem_mem hkl))
                obtain ⟨s, hs⟩ : ∃ s, sy[k] = s := ⟨_, rfl⟩
                rw [hs] at s0 s1 s2 s3 s4 s5 s6 s7 HT HMI HC
                obtain ⟨q, hq⟩ : ∃ q, symB sg s = q := ⟨_, rfl⟩
                rw [hq] at HT HMI HC
                obtain ⟨snm, svr, spl, ssz, skd, sbd, ssn, sdf⟩ := s
                simp only [] at s0 s1 s2 s3 s4 s5 s6 s7 HC
                have kk0 : (0 : Int) ≤ (k : Int) := by omega
                have kk1 : (k : Int) < (m3 : Int) := by omega
                have HC := Lib.hid (HC.out wr.drew (bTrans HB.out (below_dN wr 1)))
                have HS0 := Lib.hid (show wr.cell? ⟨B, 0, none⟩ = some (.string ⟨nm.toArray⟩) ∧ wr.cell? ⟨B, 1, none⟩ = some (.slice na m1 nc) ∧ wr.cell? ⟨B, 2, none⟩ = some (.slice ga m2 gc) ∧ wr.cell? ⟨B, 3, none⟩ = some (.slice (some ⟨g, off, none⟩) m3 sc) ∧ wr.cell? ⟨B, 4, none⟩ = some (.slice ra m4 rc) ∧ wr.cell? ⟨B, 5, none⟩ = some (.slice ia m5 ic) ∧ wr.cell? ⟨B, 6, none⟩ = some (.slice fa m6 fc) ∧ wr.cell? ⟨g, off + k * 8, none⟩ = some (.string ⟨snm.toArray⟩) ∧ wr.cell? ⟨g, off + k * 8 + 1, none⟩ = some (.string ⟨svr.toArray⟩) ∧ wr.cell? ⟨g, off + k * 8 + 2, none⟩ = some (.int .u64 spl) ∧ wr.cell? ⟨g, off + k * 8 + 3, none⟩ = some (.int .u64 ssz) ∧ wr.cell? ⟨g, off + k * 8 + 4, none⟩ = some (.int .i64 skd) ∧ wr.cell? ⟨g, off + k * 8 + 5, none⟩ = some (.int .i64 sbd) ∧ wr.cell? ⟨g, off + k * 8 + 6, none⟩ = some (.int .i64 ssn) ∧ wr.cell? ⟨g, off + k * 8 + 7, none⟩ = some (.bool sdf) from ⟨e0, e1, e2, e3, e4, e5, e6, s0, s1, s2, s3, s4, s5, s6, s7⟩)
                clear hs hq hkl
                go_upto_region 12 with fail
                go_region_held3 (fun W => W.cell? ⟨B, 0, none⟩ = some (.string ⟨nm.toArray⟩) ∧ W.cell? ⟨B, 1, none⟩ = some (.slice na m1 nc) ∧ W.cell? ⟨B, 2, none⟩ = some (.slice ga m2 gc) ∧ W.cell? ⟨B, 3, none⟩ = some (.slice (some ⟨g, off, none⟩) m3 sc) ∧ W.cell? ⟨B, 4, none⟩ = some (.slice ra m4 rc) ∧ W.cell? ⟨B, 5, none⟩ = some (.slice ia m5 ic) ∧ W.cell? ⟨B, 6, none⟩ = some (.slice fa m6 fc) ∧ W.cell? ⟨g, off + k * 8, none⟩ = some (.string ⟨snm.toArray⟩) ∧ W.cell? ⟨g, off + k * 8 + 1, none⟩ = some (.string ⟨svr.toArray⟩) ∧ W.cell? ⟨g, off + k * 8 + 2, none⟩ = some (.int .u64 spl) ∧ W.cell? ⟨g, off + k * 8 + 3, none⟩ = some (.int .u64 ssz) ∧ W.cell? ⟨g, off + k * 8 + 4, none⟩ = some (.int .i64 skd) ∧ W.cell? ⟨g, off + k * 8 + 5, none⟩ = some (.int .i64 sbd) ∧ W.cell? ⟨g, off + k * 8 + 6, none⟩ = some (.int .i64 ssn) ∧ W.cell? ⟨g, off + k * 8 + 7, none⟩ = some (.bool sdf))
                  (first | exact HS1.out | exact HS0.out | go_keep)
                  (first | (go_at_call 31; refine HC.out.mono ?_; rintro e w5 ⟨rfl, hb'⟩; have HBS := Lib.hid (bTrans (below_dN wr 1) hb'); have HS1 := Lib.hid (show w5.cell? ⟨B, 0, none⟩ = some (.string ⟨nm.toArray⟩) ∧ w5.cell? ⟨B, 1, none⟩ = some (.slice na m1 nc) ∧ w5.cell? ⟨B, 2, none⟩ = some (.slice ga m2 gc) ∧ w5.cell? ⟨B, 3, none⟩ = some (.slice (some ⟨g, off, none⟩) m3 sc) ∧ w5.cell? ⟨B, 4, none⟩ = some (.slice ra m4 rc) ∧ w5.cell? ⟨B, 5, none⟩ = some (.slice ia m5 ic) ∧ w5.cell? ⟨B, 6, none⟩ = some (.slice fa m6 fc) ∧ w5.cell? ⟨g, off + k * 8, none⟩ = some (.string ⟨snm.toArray⟩) ∧ w5.cell? ⟨g, off + k * 8 + 1, none⟩ = some (.string ⟨svr.toArray⟩) ∧ w5.cell? ⟨g, off + k * 8 + 2, none⟩ = some (.int .u64 spl) ∧ w5.cell? ⟨g, off + k * 8 + 3, none⟩ = some (.int .u64 ssz) ∧ w5.cell? ⟨g, off + k * 8 + 4, none⟩ = some (.int .i64 skd) ∧ w5.cell? ⟨g, off + k * 8 + 5, none⟩ = some (.int .i64 sbd) ∧ w5.cell? ⟨g, off + k * 8 + 6, none⟩ = some (.int .i64 ssn) ∧ w5.cell? ⟨g, off + k * 8 + 7, none⟩ = some (.bool sdf) from ⟨cell_below HBS.out HS0.out.1, cell_below HBS.out HS0.out.2.1, cell_below HBS.out HS0.out.2.2.1, cell_below HBS.out HS0.out.2.2.2.1, cell_below HBS.out HS0.out.2.2.2.2.1, cell_below HBS.out HS0.out.2.2.2.2.2.1, cell_below HBS.out HS0.out.2.2.2.2.2.2.1, cell_below HBS.out HS0.out.2.2.2.2.2.2.2.1, cell_below HBS.out HS0.out.2.2.2.2.2.2.2.2.1, cell_below HBS.out HS0.out.2.2.2.2.2.2.2.2.2.1, cell_below HBS.out HS0.out.2.2.2.2.2.2.2.2.2.2.1, cell_below HBS.out HS0.out.2.2.2.2.2.2.2.2.2.2.2.1, cell_below HBS.out HS0.out.2.2.2.2.2.2.2.2.2.2.2.2.1, cell_below HBS.out HS0.out.2.2.2.2.2.2.2.2.2.2.2.2.2.1, cell_below HBS.out HS0.out.2.2.2.2.2.2.2.2.2.2.2.2.2.2⟩); clear hb'))
                clear e0 e1 e2 e3 e4 e5 e6 s0 s1 s2 s3 s4 s5 s6 s7
                have HB5 := Lib.hid (bTrans HB.out HBS.out)
                have HX5 := Lib.hid (boxN_below HX.out HBS.out)
                cases q with
                | false =>
                  have hqf : false = q4 := by rw [← HQ4.out, HMI.out rfl]
                  subst hqf
                  have hrf : 106 = r := HR4.out
                  subst hrf
                  go_wp2_with fail
                  go_ret
                  exact ⟨rfl, HB5.out⟩
                | true =>
                  have HQN : Hid ((sy.take (k + 1)).all (symB sg) = true) := Lib.hid (by rw [HT.out, HQ.out]; rfl)
                  go_wp2_with fail
                  go_roundw
                  case rel => exact ⟨k + 1, by go_num, by omega, HQN, HB5, HX5⟩
                  case measure => simp [intOf]; omega
              · have hk2 : k = m3 := by omega
                subst hk2
                have hqt : q4 = true := by
                  have := HQ.out
                  rw [List.take_of_length_le (by rw [H3.out]; omega), HQ4.out] at this
                  exact this
                go_wp2_with fail
                go_meet
                case rel => exact ⟨hqt, HB, HX⟩
          case rest =>
            clear e0 e1 e2 e3 e4 e5 e6 HB HX
            obtain ⟨hq4t, HB, HX⟩ := hcut
            subst hq4t
            have HR5 : Hid ((if !q5 then 107 else if !(q6 && q7) then 108 else 0) = r) := Lib.hid HR4.out
            clear HR4
            have e0 : wc.cell? ⟨B, 0, none⟩ = some (.string ⟨nm.toArray⟩) := HX.out.cell 0
            have e1 : wc.cell? ⟨B, 1, none⟩ = some (.slice na m1 nc) := HX.out.cell 1
            have e2 : wc.cell? ⟨B, 2, none⟩ = some (.slice ga m2 gc) := HX.out.cell 2
            have e3 : wc.cell? ⟨B, 3, none⟩ = some (.slice sa m3 sc) := HX.out.cell 3
            have e4 : wc.cell? ⟨B, 4, none⟩ = some (.slice ra m4 rc) := HX.out.cell 4
            have e5 : wc.cell? ⟨B, 5, none⟩ = some (.slice ia m5 ic) := HX.out.cell 5
            have e6 : wc.cell? ⟨B, 6, none⟩ = some (.slice fa m6 fc) := HX.out.cell 6
            go_wp2_with fail
            refine (HRL.out (by trivial) wc HB.out).mono ?_; rintro e W5 ⟨rfl, hb'⟩
            have HX := Lib.hid (boxN_below HX.out hb')
            have HB := Lib.hid (bTrans HB.out hb')
            clear hb'
            clear e0 e1 e2 e3 e4 e5 e6
            have e0 : W5.cell? ⟨B, 0, none⟩ = some (.string ⟨nm.toArray⟩) := HX.out.cell 0
            have e1 : W5.cell? ⟨B, 1, none⟩ = some (.slice na m1 nc) := HX.out.cell 1
            have e2 : W5.cell? ⟨B, 2, none⟩ = some (.slice ga m2 gc) := HX.out.cell 2
            have e3 : W5.cell? ⟨B, 3, none⟩ = some (.slice sa m3 sc) := HX.out.cell 3
            have e4 : W5.cell? ⟨B, 4, none⟩ = some (.slice ra m4 rc) := HX.out.cell 4
            have e5 : W5.cell? ⟨B, 5, none⟩ = some (.slice ia m5 ic) := HX.out.cell 5
            have e6 : W5.cell? ⟨B, 6, none⟩ = some (.slice fa m6 fc) := HX.out.cell 6
            cases q5 with
            | false =>
              have hrf : 107 = r := HR5.out
              subst hrf
              go_wp2_with fail
              go_ret
              exact ⟨rfl, HB.out⟩
            | true =>
              have HR6 : Hid ((if !(q6 && q7) then 108 else 0) = r) := Lib.hid HR5.out
              clear HR5
              go_wp2_with fail
              refine (HL1.out W5 HB.out).mono ?_; rintro e W6 ⟨rfl, hb'⟩
              have HX := Lib.hid (boxN_below HX.out hb')
              have HB := Lib.hid (bTrans HB.out hb')
              clear hb'
              clear e0 e1 e2 e3 e4 e5 e6
              have e0 : W6.cell? ⟨B, 0, none⟩ = some (.string ⟨nm.toArray⟩) := HX.out.cell 0
              have e1 : W6.cell? ⟨B, 1, none⟩ = some (.slice na m1 nc) := HX.out.cell 1
              have e2 : W6.cell? ⟨B, 2, none⟩ = some (.slice ga m2 gc) := HX.out.cell 2
              have e3 : W6.cell? ⟨B, 3, none⟩ = some (.slice sa m3 sc) := HX.out.cell 3
              have e4 : W6.cell? ⟨B, 4, none⟩ = some (.slice ra m4 rc) := HX.out.cell 4
              have e5 : W6.cell? ⟨B, 5, none⟩ = some (.slice ia m5 ic) := HX.out.cell 5
              have e6 : W6.cell? ⟨B, 6, none⟩ = some (.slice fa m6 fc) := HX.out.cell 6
              go_wp2_with fail
              refine (HL2.out W6 HB.out).mono ?_; rintro e W7 ⟨rfl, hb'⟩
              have HX := Lib.hid (boxN_below HX.out hb')
              have HB := Lib.hid (bTrans HB.out hb')
              clear hb'
              clear e0 e1 e2 e3 e4 e5 e6
              cases q6 with
              | false =>
                have hrf : 108 = r := HR6.out
                subst hrf
                go_wp2_with fail
                go_ret
                exact ⟨rfl, HB.out⟩
              | true =>
                cases q7 with
                | false =>
                  have hrf : 108 = r := HR6.out
                  subst hrf
                  go_wp2_with fail
                  go_ret
                  exact ⟨rfl, HB.out⟩
                | true =>
                  have hrf : 0 = r := HR6.out
                  subst hrf
                  go_wp2_with fail
                  go_ret
                  exact ⟨rfl, HB.out⟩
end Go.Proofs.Ytidnojjhchmmgaa
