/- PlanWhole: its walk. -/
import Derived.Test.YthammjpadbbflaaPlV
import Derived.Deep.RegionHeld3
namespace Go.Proofs.Ythammjpadbbflaa
set_option linter.unusedVariables false
set_option linter.unusedSimpArgs false
open Go.Joins Go.ChangeShapes Go.WideShapes Go.ChangeAt Go.RowKit Go.Deep

set_option maxHeartbeats 2000000 in
set_option maxRecDepth 100000 in
theorem PlanWhole_walk (a : Option Addr) (l : List Ob) (c : Nat) (b : Option Addr) (z : List Int) (d : Nat) (g : Option Addr) (y : List Int) (f : Nat) (w : World) (hl : RdL w a l) (hm : l.length ≤ maxLen) (hs : Rd w b z.length (i64s z)) (hz : z.length ≤ maxLen) (ho : Rd w g y.length (i64s y)) (hy : y.length ≤ maxLen) :
    Calls Try.prog 10 #[.slice a l.length c, .slice b z.length d, .slice g y.length f] w fun e w' => e = .returned (.bool true) ∧ Below w.heap.size w w' := by
  unfold maxLen at hm hz hy
  have HRI := Lib.hid (fun W (hW : Below w.heap.size w W) => right15_any a b g c d f l z y W (hl.below hW) (by omega) (hs.below hW) (by omega) (ho.below hW) (by omega))
  obtain ⟨ri, hri⟩ : ∃ r, rightP l z y = r := ⟨_, rfl⟩
  rw [hri] at HRI
  have HRE := Lib.hid hri
  have HL := Lib.hid hl
  have HS := Lib.hid hs
  have HO := Lib.hid ho
  obtain ⟨m, hm1⟩ : ∃ m, l.length = m := ⟨_, rfl⟩
  obtain ⟨n, hn1⟩ : ∃ n, z.length = n := ⟨_, rfl⟩
  obtain ⟨p, hp1⟩ : ∃ p, y.length = p := ⟨_, rfl⟩
  rw [hm1] at hm HRI ⊢
  rw [hn1] at hz HRI HS ⊢
  rw [hp1] at hy HRI HO ⊢
  have HM := Lib.hid hm1
  have HN := Lib.hid hn1
  have HP := Lib.hid hp1
  clear hl hs ho hri hm1 hn1 hp1
  go_enter Try.func10, Try.ntmps10
  go_wp2_with fail
  refine (awake15_any _).mono ?_; rintro e w1 ⟨rfl, hb1⟩
  have B1 := Lib.hid hb1
  clear hb1
  go_wp2_with fail
  refine (HRI.out _ B1.out).mono ?_; rintro e w2 ⟨rfl, hb2⟩
  have B1 := Lib.hid (bTrans B1.out hb2)
  clear hb2
  cases ri with
  | false =>
    go_wp2_with fail
    go_ret
    exact ⟨rfl, B1.out⟩
  | true =>
    obtain ⟨sc, os, hz1, hy1, hsc, hoc, hfw, hrl, h40, h10⟩ := plan_ok HRE.out
    subst hz1
    subst hy1
    have hnn : sc.length = n := by have := HN.out; simpa using this
    have hpp : os.length = p := by have := HP.out; simpa using this
    have hs0 := HS.out
    have ho0 := HO.out
    rw [i64s_ord, ← hnn] at hs0
    rw [i64s_ord, ← hpp] at ho0
    have HLK := Lib.hid (fun W (hW : Below w.heap.size w W) => link_any a b g c d f l sc os W (HL.out.below hW) (hs0.below hW) (ho0.below hW) hsc hoc hfw hrl (by omega) (by omega))
    have hlen := linkF_len l sc hrl os [] hoc
    have herr := linkF_err l sc os []
    have hwh := linkF_where l sc os []
    obtain ⟨R, hR⟩ : ∃ R, linkF l sc os [] = R := ⟨_, rfl⟩
    have HR0 := Lib.hid (show linkF l sc (os.drop 0) [] = R by rw [List.drop_zero]; exact hR)
    rw [hR] at HLK hlen herr hwh
    rw [HM.out, hnn, hpp] at HLK
    obtain ⟨xs, ee⟩ := R
    simp only [] at HLK hlen
    have hxl : xs.length ≤ 600 := by simp at hlen; omega
    have HOC := Lib.hid hoc
    have HSC := Lib.hid hsc
    have HRO := Lib.hid hrl
    have HO1 := Lib.hid (show Rd w g p (ordV os) by rw [← hpp]; exact ho0)
    have HPP := Lib.hid hpp
    have hm10 : m ≤ 10 := by rw [← HM.out]; exact hfw.1
    have hp10 : p ≤ 10 := by omega
    clear hlen hR hs0 ho0 hsc hnn hpp HN HP HS HO HRE HRI hfw hrl h40 h10
    cases ee with
    | some e2 =>
      obtain ⟨⟨bo, br, bt, bs⟩, er⟩ := e2
      obtain ⟨hx0, hne⟩ := herr _ rfl
      obtain ⟨o, hoo, hb1, hb2, hb3⟩ := hwh _ rfl
      have hx0 : xs = [] := hx0
      have hne : ¬ (er = 0) := hne
      have hb1 : bo = (o : Int) := hb1
      have hb2 : 0 ≤ br := hb2
      have hb3 : br < ((relsAt l o).length : Int) := hb3
      subst hx0
      subst hb1
      have hol : o < l.length := hoc _ hoo
      rw [relsAt_eq hol] at hb3
      obtain ⟨gl, fl, hgl, -, hob⟩ := HL.out.at_ hol
      subst hgl
      obtain ⟨sa, s2, ra, rc, x1, x2, x3, x4, x5⟩ := hob
      obtain ⟨q, hq⟩ : ∃ q, l[o].rels.length = q := ⟨_, rfl⟩
      rw [hq] at x2 hb3
      have HX2 := Lib.hid x2
      have oo0 : (0 : Int) ≤ (o : Int) := by omega
      have oo1 : (o : Int) < (m : Int) := by rw [← HM.out]; omega
      have od0 : decide ((o : Int) < 0) = false := decide_eq_false (by omega)
      have od1 : decide ((m : Int) ≤ (o : Int)) = false := decide_eq_false (by omega)
      have od2 : ¬ (o : Int) < 0 := by omega
      have od3 : ¬ (m : Int) ≤ (o : Int) := by omega
      have od4 : decide ((0 : Int) ≤ br) = true := decide_eq_true hb2
      have od5 : decide (br < (q : Int)) = true := decide_eq_true hb3
      simp only [badL, errL, List.length_nil] at HLK
      clear x1 x2 x3 x4 x5 hq hoo hol hoc herr hwh HR0 hxl
      go_wp2_with fail
      refine (HLK.out _ B1.out).mono ?_; rintro e w3 ⟨a1, c1, rfl, -, hb⟩
      have B3 := Lib.hid (bTrans B1.out hb)
      clear hb
      have x2 := (B3.out.cell (heap_lt_of_cell HX2.out)).trans HX2.out
      have hx2l := heap_lt_of_cell x2
      have hx2l : gl < w3.heap.size := hx2l
      go_wp2_with fail
      go_quiet (fail)
      go_wp2_with fail
      go_ret
      exact ⟨rfl, (bAlloc B3.out _).trans ⟨rfl, rfl, rfl, Nat.le_refl _, fun _ _ => rfl⟩⟩
    | none =>
      obtain ⟨nx, hnx⟩ : ∃ x, xs.length = x := ⟨_, rfl⟩
      simp only [badL, errL] at HLK
      rw [hnx] at HLK hxl
      have HNX := Lib.hid hnx
      clear herr hwh hnx hoc
      go_wp2_with fail
      refine (HLK.out _ B1.out).mono ?_; rintro e w3 ⟨a1, c1, rfl, hk1, hb⟩
      have B3 := Lib.hid (bTrans B1.out hb)
      have HK1 := Lib.hid hk1
      clear hb hk1 HLK B1
      go_wp2_with fail
      go_loopw [12, 13] (fun av iv wr => ∃ (i n12 : Nat) (pre : List Lnk), av = .int .i64 n12 ∧ iv = .int .i64 i ∧ i ≤ p ∧ n12 ≤ 60 * i ∧ pre.length = n12 ∧ Hid (linkF l sc (os.drop i) pre = (xs, none)) ∧ Hid (Below w3.heap.size w3 wr)) (fun _ iv _ => p - (intOf iv).toNat)
      case atStart => exact ⟨0, 0, [], rfl, rfl, by omega, by omega, rfl, HR0, Lib.hid (bAlloc (Below.refl _ _) _)⟩
      case round =>
        obtain ⟨i, n12, pre, rfl, rfl, hi, h12, hpre, HK, HB⟩ := hrel
        by_cases hlt : i < p
        · have hil : i < os.length := by rw [HPP.out]; exact hlt
          have HBW := Lib.hid (bTrans B3.out HB.out)
          obtain ⟨gg, off, hge, hggl, hc0⟩ := HO1.out.at_ hlt
          subst hge
          rw [ordV_get os i hil] at hc0
          have hmem := HOC.out _ (List.getElem_mem hil)
          have hk2 := HK.out
          rw [linkF_at l sc os i pre hil] at hk2
          obtain ⟨o, ho⟩ : ∃ o, os[i] = o := ⟨_, rfl⟩
          rw [ho] at hc0 hmem hk2
          obtain ⟨gl, fl, hgl, hgll, hob⟩ := HL.out.at_ hmem
          subst hgl
          have hrs := relsAt_eq hmem
          have hsy := symsAt_eq hmem
          obtain ⟨hq60, hry⟩ := HRO.out _ (List.getElem_mem hmem)
          rw [← hsy] at hry
          obtain ⟨sa, s2, ra, rc, x1, x2, x3, x4, x5⟩ := hob
          rw [← hsy] at x1 x3 x4
          obtain ⟨rs, hrs2⟩ : ∃ rs, l[o].rels = rs := ⟨_, rfl⟩
          rw [hrs2] at hrs hry x5 x2 hq60
          rw [hrs] at hk2
          obtain ⟨q, hq⟩ : ∃ q, rs.length = q := ⟨_, rfl⟩
          rw [hq] at x2 hq60
          obtain ⟨u, hu⟩ : ∃ u, (symsAt l o).length = u := ⟨_, rfl⟩
          rw [hu] at x1 x4 hry
          have HK2 := Lib.hid hk2
          have HX1 := Lib.hid x1
          have HX2 := Lib.hid x2
          have HX3 := Lib.hid x3
          have HX5 := Lib.hid x5
          have HC0 := Lib.hid hc0
          have HRY := Lib.hid hry
          have HQ := Lib.hid hq
          have HU := Lib.hid hu
          have HOL := Lib.hid hmem
          have hom : o < m := by rw [← HM.out]; exact hmem
          have kk0 : (0 : Int) ≤ (i : Int) := by omega
          have kk1 : (i : Int) < (p : Int) := by omega
          have oo0 : (0 : Int) ≤ (o : Int) := by omega
          have oo1 : (o : Int) < (m : Int) := by omega
          clear hk2 x1 x2 x3 x5 hq hu hrs hrs2 hry ho hmem hil HK hsy hc0
          go_wp2_with fail
          go_loopw [12, 14] (fun av kv w2 => ∃ (k n12 : Nat) (pre : List Lnk), av = .int .i64 n12 ∧ kv = .int .i64 k ∧ k ≤ q ∧ n12 ≤ 60 * i + k ∧ pre.length = n12 ∧ Hid (contF l sc (os.drop (i + 1)) (relF l sc o k (rs.drop k) pre) = (xs, none)) ∧ Hid (Below w3.heap.size w3 w2)) (fun _ kv _ => q - (intOf kv).toNat)
          case atStart => exact ⟨0, n12, pre, rfl, rfl, by omega, by omega, hpre, HK2, HB⟩
          case round =>
            clear HB HK2 hpre h12 HBW
            obtain ⟨k, n14, pre, rfl, rfl, hk, h14, hpre, HJ, HB⟩ := hrel
            have HBW := Lib.hid (bTrans B3.out HB.out)
            have hc0 := (HBW.out.cell (heap_lt_of_cell HC0.out)).trans HC0.out
            have x1 := (HBW.out.cell (heap_lt_of_cell HX1.out)).trans HX1.out
            have x2 := (HBW.out.cell (heap_lt_of_cell HX2.out)).trans HX2.out
            by_cases hkq : k < q
            · have hkl : k < rs.length := by rw [HQ.out]; exact hkq
              obtain ⟨tt, s, hbd, hnext, hal, hxa⟩ := whole_step l sc (os.drop (i + 1)) o k rs pre xs HJ.out hkl
              obtain ⟨gr, fr, hgr, -, -, z1⟩ := (HX5.out.below HBW.out).at_ hkl
              subst hgr
              obtain ⟨hy0, hy1⟩ := HRY.out _ (List.getElem_mem hkl)
              obtain ⟨ry, hrr⟩ : ∃ ry, rs[k].2 = ry := ⟨_, rfl⟩
              rw [hrr] at z1 hy0 hy1 hbd
              obtain ⟨yn, rfl⟩ := Int.eq_ofNat_of_zero_le hy0
              have hyu : yn < u := by omega
              have hyl : yn < (symsAt l o).length := by rw [HU.out]; exact hyu
              have hcs := bnd_cases l sc o yn tt s HOL.out hyl HSC.out hbd
              obtain ⟨gs, fs, hgs, -, h8⟩ := (HX3.out.below HBW.out).at_ hyl
              subst hgs
              obtain ⟨sm, hsm⟩ : ∃ sm, (symsAt l o)[yn] = sm := ⟨_, rfl⟩
              rw [hsm] at h8 hcs
              obtain ⟨nm, vr, pl, sz, kd, bd, sn, df⟩ := sm
              obtain ⟨z10, z11, z12, z13, z14, z15, z16, z17⟩ := h8
              simp only [] at z10 z11 z12 z13 z14 z15 z16 z17 hcs
              obtain ⟨g1, f1, hg1, -, p0, p1, p2, p3⟩ := ((HK1.out).below HB.out).at_ hal
              subst hg1
              rw [hxa] at p0 p1 p2 p3
              simp only [] at p0 p1 p2 p3
              rw [hpre] at p0 p1 p2 p3
              have hnx : n14 < nx := by rw [← HNX.out, ← hpre]; exact hal
              have jj0 : (0 : Int) ≤ (k : Int) := by omega
              have jj1 : (k : Int) < (q : Int) := by omega
              have yy0 : (0 : Int) ≤ (yn : Int) := by omega
              have yy1 : (yn : Int) < (u : Int) := by omega
              have aa0 : (0 : Int) ≤ (n14 : Int) := by omega
              have aa1 : (n14 : Int) < (nx : Int) := by omega
              have ad1 : decide ((nx : Int) ≤ (n14 : Int)) = false := decide_eq_false (by omega)
              have HNEXT := Lib.hid hnext
              have HPRE := Lib.hid (show (pre ++ [(⟨o, k, tt, s⟩ : Lnk)]).length = n14 + 1 by simp [hpre])
              have HCS := Lib.hid hcs
              have hsz := HB.out.size
              clear hbd hnext hal hxa hrr hyl hsm hkl hcs hpre HJ
              go_wp2_with fail
              go_quiet (fail)
              go_wp2_with fail
              have HBQ := Lib.hid (show Below w3.heap.size w3 (wr.drewN nq) from HB.out.trans ⟨rfl, rfl, rfl, Nat.le_refl _, fun _ _ => rfl⟩)
              obtain ⟨W2, hW2⟩ : ∃ W, wr.drewN nq = W := ⟨_, rfl⟩
              rw [hW2] at HBQ ⊢
              have tr : ∀ {b o : Nat} {v : Value}, wr.cell? ⟨b, o, none⟩ = some v → W2.cell? ⟨b, o, none⟩ = some v := fun {b o v} h => by rw [← hW2]; exact h
              replace hc0 := tr hc0
              replace x1 := tr x1
              replace x2 := tr x2
              replace z1 := tr z1
              replace z10 := tr z10
              replace z11 := tr z11
              replace z12 := tr z12
              replace z13 := tr z13
              replace z14 := tr z14
              replace z15 := tr z15
              replace z16 := tr z16
              replace z17 := tr z17
              replace p0 := tr p0
              replace p1 := tr p1
              replace p2 := tr p2
              replace p3 := tr p3
              clear tr
              clear hW2
              have HF := Lib.hid (And.intro hc0 (And.intro x1 (And.intro x2 (And.intro z1 (And.intro z10 (And.intro z11 (And.intro z12 (And.intro z13 (And.intro z14 (And.intro z15 (And.intro z16 z17)))))))))))
              go_region_held3 (fun W => W.cell? ⟨gg, off + i, none⟩ = some (.int .i64 (o : Int)) ∧ W.cell? ⟨gl, fl + o * 7 + 3, none⟩ = some (.slice (some ⟨gs, fs, none⟩) u s2) ∧ W.cell? ⟨gl, fl + o * 7 + 4, none⟩ = some (.slice (some ⟨gr, fr, none⟩) q rc) ∧ W.cell? ⟨gr, fr + k * 2 + 1, none⟩ = some (.int .i64 (yn : Int)) ∧ W.cell? ⟨gs, fs + yn * 8, none⟩ = some (.string ⟨nm.toArray⟩) ∧ W.cell? ⟨gs, fs + yn * 8 + 1, none⟩ = some (.string ⟨vr.toArray⟩) ∧ W.cell? ⟨gs, fs + yn * 8 + 2, none⟩ = some (.int .u64 pl) ∧ W.cell? ⟨gs, fs + yn * 8 + 3, none⟩ = some (.int .u64 sz) ∧ W.cell? ⟨gs, fs + yn * 8 + 4, none⟩ = some (.int .i64 kd) ∧ W.cell? ⟨gs, fs + yn * 8 + 5, none⟩ = some (.int .i64 bd) ∧ W.cell? ⟨gs, fs + yn * 8 + 6, none⟩ = some (.int .i64 sn) ∧ W.cell? ⟨gs, fs + yn * 8 + 7, none⟩ = some (.bool df))
                (first | exact HF.out | go_keep)
                (fail)
              obtain ⟨W4, hW4⟩ : ∃ W, (W2.alloc (.cells #[.string ⟨nm.toArray⟩, .string ⟨vr.toArray⟩, .int .u64 pl, .int .u64 sz, .int .i64 kd, .int .i64 bd, .int .i64 sn, .bool df] 45)).drew = W := ⟨_, rfl⟩
              rw [hW4]
              have hb34 : Below W2.heap.size W2 W4 := by rw [← hW4]; exact Below.drew (bAlloc (Below.refl _ _) _)
              have bx : BoxN W4 W2.heap.size #[.string ⟨nm.toArray⟩, .string ⟨vr.toArray⟩, .int .u64 pl, .int .u64 sz, .int .i64 kd, .int .i64 bd, .int .i64 sn, .bool df] := by rw [← hW4]; exact (BoxN.new _ _ _).drew
              have tr : ∀ {b o : Nat} {v : Value}, W2.cell? ⟨b, o, none⟩ = some v → W4.cell? ⟨b, o, none⟩ = some v := fun {b o v} h => (hb34.cell (heap_lt_of_cell h)).trans h
              replace hc0 := tr hc0
              replace x1 := tr x1
              replace x2 := tr x2
              replace z1 := tr z1
              replace z10 := tr z10
              replace z11 := tr z11
              replace z12 := tr z12
              replace z13 := tr z13
              replace z14 := tr z14
              replace z15 := tr z15
              replace z16 := tr z16
              replace z17 := tr z17
              replace p0 := tr p0
              replace p1 := tr p1
              replace p2 := tr p2
              replace p3 := tr p3
              clear tr
              have HB4 := Lib.hid (bTrans HBQ.out hb34)
              have BX := Lib.hid bx
              have b0 : W4.cell? ⟨W2.heap.size, 0, none⟩ = some (.string ⟨nm.toArray⟩) := bx.cell 0
              have b5 : W4.cell? ⟨W2.heap.size, 5, none⟩ = some (.int .i64 bd) := bx.cell 5
              have b7 : W4.cell? ⟨W2.heap.size, 7, none⟩ = some (.bool df) := bx.cell 7
              clear hW4 hb34 bx HF HBQ
              rcases HCS.out with ⟨ht, hdf, hbd⟩ | ⟨o', y', ht, hs', ho', hy', hdd, hnm⟩
              · subst ht
                subst hdf
                go_wp2_with fail
                go_roundw
                case rel => exact ⟨k + 1, n14 + 1, _, by go_num, by go_num, by omega, by omega, HPRE.out, HNEXT, HB4⟩
                case measure => simp [intOf]; omega
              · subst ht
                subst hs'
                have hol' : o' < m := by rw [← HM.out]; exact ho'
                have HBW4 := Lib.hid (bTrans B3.out HB4.out)
                obtain ⟨gl', fl', hgl', -, hob'⟩ := HL.out.at_ ho'
                cases hgl'
                obtain ⟨sa', s2', ra', rc', x1', -, x3', -, -⟩ := hob'
                have hsy' := symsAt_eq ho'
                rw [← hsy'] at x1' x3'
                have x1' := (HBW4.out.cell (heap_lt_of_cell x1')).trans x1'
                obtain ⟨gs', fs', hgs', -, h8'⟩ := (x3'.below HBW4.out).at_ hy'
                subst hgs'
                obtain ⟨sd, hsd⟩ : ∃ sd, (symsAt l o')[y'] = sd := ⟨_, rfl⟩
                rw [hsd] at h8' hdd hnm
                obtain ⟨nm2, vr2, pl2, sz2, kd2, bd2, sn2, df2⟩ := sd
                obtain ⟨v0, v1, v2, v3, v4, v5, v6, v7⟩ := h8'
                simp only [] at v0 v1 v2 v3 v4 v5 v6 v7 hdd hnm
                subst hdd
                subst hnm
                obtain ⟨u', hu'⟩ : ∃ u', (symsAt l o').length = u' := ⟨_, rfl⟩
                rw [hu'] at x1'
                have hyu' : y' < u' := by rw [← hu']; exact hy'
                have qq0 : (0 : Int) ≤ (o' : Int) := by omega
                have qq1 : (o' : Int) < (m : Int) := by omega
                have qq2 : (0 : Int) ≤ (y' : Int) := by omega
                have qq3 : (y' : Int) < (u' : Int) := by omega
                have qd0 : decide ((o' : Int) < 0) = false := decide_eq_false (by omega)
                have qd1 : decide ((m : Int) ≤ (o' : Int)) = false := decide_eq_false (by omega)
                have qd2 : decide ((y' : Int) < 0) = false := decide_eq_false (by omega)
                have qd3 : decide ((u' : Int) ≤ (y' : Int)) = false := decide_eq_false (by omega)
                have qn0 : ¬ (o' : Int) < 0 := by omega
                clear hc0 x1 x2 z1 z10 z11 z12 z13 z14 z15 z16 z17 p0 p1 b5 x3' hsd hsy' hu' ho' hy'
                go_wp2_with fail
                go_quiet (fail)
                go_wp2_with fail
                have HBQ := Lib.hid (show Below w3.heap.size w3 (W4.drewN nq) from HB4.out.trans ⟨rfl, rfl, rfl, Nat.le_refl _, fun _ _ => rfl⟩)
                obtain ⟨W5, hW5⟩ : ∃ W, W4.drewN nq = W := ⟨_, rfl⟩
                rw [hW5] at HBQ ⊢
                have tr : ∀ {b o : Nat} {v : Value}, W4.cell? ⟨b, o, none⟩ = some v → W5.cell? ⟨b, o, none⟩ = some v := fun {b o v} h => by rw [← hW5]; exact h
                replace p2 := tr p2
                replace p3 := tr p3
                replace x1' := tr x1'
                replace v0 := tr v0
                replace v1 := tr v1
                replace v2 := tr v2
                replace v3 := tr v3
                replace v4 := tr v4
                replace v5 := tr v5
                replace v6 := tr v6
                replace v7 := tr v7
                replace b0 := tr b0
                replace b7 := tr b7
                clear tr
                clear hW5
                have HF := Lib.hid (And.intro p2 (And.intro p3 (And.intro x1' (And.intro v0 (And.intro v1 (And.intro v2 (And.intro v3 (And.intro v4 (And.intro v5 (And.intro v6 v7))))))))))
                go_region_held3 (fun W => W.cell? ⟨g1, f1 + n14 * 4 + 2, none⟩ = some (.int .i64 (o' : Int)) ∧ W.cell? ⟨g1, f1 + n14 * 4 + 3, none⟩ = some (.int .i64 (y' : Int)) ∧ W.cell? ⟨gl, fl + o' * 7 + 3, none⟩ = some (.slice (some ⟨gs', fs', none⟩) u' s2') ∧ W.cell? ⟨gs', fs' + y' * 8, none⟩ = some (.string ⟨nm2.toArray⟩) ∧ W.cell? ⟨gs', fs' + y' * 8 + 1, none⟩ = some (.string ⟨vr2.toArray⟩) ∧ W.cell? ⟨gs', fs' + y' * 8 + 2, none⟩ = some (.int .u64 pl2) ∧ W.cell? ⟨gs', fs' + y' * 8 + 3, none⟩ = some (.int .u64 sz2) ∧ W.cell? ⟨gs', fs' + y' * 8 + 4, none⟩ = some (.int .i64 kd2) ∧ W.cell? ⟨gs', fs' + y' * 8 + 5, none⟩ = some (.int .i64 bd2) ∧ W.cell? ⟨gs', fs' + y' * 8 + 6, none⟩ = some (.int .i64 sn2) ∧ W.cell? ⟨gs', fs' + y' * 8 + 7, none⟩ = some (.bool true))
                  (first | exact HF.out | go_keep)
                  (fail)
                obtain ⟨W7, hW7⟩ : ∃ W, (W5.alloc (.cells #[.string ⟨nm2.toArray⟩, .string ⟨vr2.toArray⟩, .int .u64 pl2, .int .u64 sz2, .int .i64 kd2, .int .i64 bd2, .int .i64 sn2, .bool true] 45)).drew = W := ⟨_, rfl⟩
                rw [hW7]
                have hb67 : Below W5.heap.size W5 W7 := by rw [← hW7]; exact Below.drew (bAlloc (Below.refl _ _) _)
                have bx : BoxN W7 W5.heap.size #[.string ⟨nm2.toArray⟩, .string ⟨vr2.toArray⟩, .int .u64 pl2, .int .u64 sz2, .int .i64 kd2, .int .i64 bd2, .int .i64 sn2, .bool true] := by rw [← hW7]; exact (BoxN.new _ _ _).drew
                have tr : ∀ {b o : Nat} {v : Value}, W5.cell? ⟨b, o, none⟩ = some v → W7.cell? ⟨b, o, none⟩ = some v := fun {b o v} h => (hb67.cell (heap_lt_of_cell h)).trans h
                replace b0 := tr b0
                replace b7 := tr b7
                clear tr
                have HB7 := Lib.hid (bTrans HBQ.out hb67)
                have d0 : W7.cell? ⟨W5.heap.size, 0, none⟩ = some (.string ⟨nm2.toArray⟩) := bx.cell 0
                have d7 : W7.cell? ⟨W5.heap.size, 7, none⟩ = some (.bool true) := bx.cell 7
                have enm : (nm2 == nm2) = true := beq_self_eq_true _
                clear hW7 hb67 bx HF HBQ v0 v1 v2 v3 v4 v5 v6 v7 p2 p3 x1'
                go_wp2_with fail
                go_roundw
                case rel => exact ⟨k + 1, n14 + 1, _, by go_num, by go_num, by omega, by omega, HPRE.out, HNEXT, HB7⟩
                case measure => simp [intOf]; omega
            · have hkq2 : k = q := by omega
              subst hkq2
              have HJ2 := Lib.hid (show linkF l sc (os.drop (i + 1)) pre = (xs, none) by rw [← HJ.out, relF_end l sc o k rs pre (by rw [HQ.out]; omega)]; rfl)
              go_wp2_with fail
              go_roundw
              case rel => exact ⟨i + 1, n14, pre, rfl, by go_num, by omega, by omega, hpre, HJ2, HB⟩
              case measure => simp [intOf]; omega
        · have hkn : i = p := by omega
          subst hkn
          have hxe : xs = pre := by
            have := HK.out
            rw [linkF_end l sc os i pre (by rw [HPP.out]; omega)] at this
            exact (Prod.mk.inj this).1.symm
          have hnn : nx = n12 := by rw [← HNX.out, hxe, hpre]
          subst hnn
          go_wp2_with fail
          go_ret
          exact ⟨rfl, bTrans B3.out HB.out⟩
end Go.Proofs.Ythammjpadbbflaa
