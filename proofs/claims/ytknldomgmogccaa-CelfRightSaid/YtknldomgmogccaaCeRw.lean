/- CelfRight: its walk. -/
import Derived.Test.YtknldomgmogccaaCeZ
import Derived.Test.YtknldomgmogccaaCeV
import Derived.Deep.Cut
import Derived.Deep.QuietTactic
import Derived.Deep.RegionHeld3
namespace Go.Proofs.Ytknldomgmogccaa
set_option linter.unusedVariables false
set_option linter.unusedSimpArgs false
open Go.Joins Go.ChangeShapes Go.WideShapes Go.ChangeAt Go.RowKit Go.Deep

theorem below_drewN' (w : World) (n : Nat) : Below w.heap.size w (w.drewN n) := ⟨rfl, rfl, rfl, Nat.le_refl _, fun _ _ => rfl⟩
set_option maxHeartbeats 8000000 in
set_option maxRecDepth 100000 in
theorem CelfRight_walk (a : Option Addr) (c : Nat) (b : List UInt8) (w : World) (hb : Rd w a b.length (u8v b)) (hl : b.length ≤ maxLen) (hc : b.length ≤ c) :
    Calls Try.prog 5 #[.slice a b.length c] w fun e w' => e = .returned (.bool true) ∧ Below w.heap.size w w' := by
  obtain ⟨m, hm⟩ : ∃ m, b.length = m := ⟨_, rfl⟩
  have HM := Lib.hid hm
  have HBY := Lib.hid hb
  rw [hm] at HBY hl hc ⊢
  unfold maxLen at hl
  clear hb hm
  go_enter Try.func5, Try.ntmps5
  go_wp2_with fail
  refine (awake_any _).mono ?_; rintro e W1 ⟨rfl, hb⟩
  have HB := Lib.hid hb
  clear hb
  by_cases hcond : m ≤ 4000
  · have k1 : ¬ (4000 : Int) < (m : Int) := by omega
    have HP1 := Lib.hid (parse_any' a m c b W1 HM.out (HBY.out.below HB.out) hc (by omega))
    have HBAD := Lib.hid (fun (h : (parseF b).2 ≠ 0) => parse_bad h)
    have HGOOD := Lib.hid (fun (o : Ob) (h : (parseF b).2 = 0) (ho : coreO o = (parseF b).1) => parse_right h ho)
    obtain ⟨cb, hcb⟩ : ∃ x, (parseF b).1 = x := ⟨_, rfl⟩
    obtain ⟨e1, he1⟩ : ∃ e, (parseF b).2 = e := ⟨_, rfl⟩
    rw [he1] at HP1 HBAD HGOOD
    rw [hcb] at HP1 HBAD HGOOD
    clear hcb he1
    go_wp2_with fail
    refine HP1.out.mono ?_; rintro e W2 ⟨o, rfl, hb, hrd, hfo, hco, hnc⟩
    have HB := Lib.hid (bTrans HB.out hb)
    have hg := fun (h : e1 = 0) => HGOOD.out o h hco
    obtain ⟨nm, nd, sg, sy, rl, ini, fin, na, nc, ga, gc, sa, sc, ra, rc, ia, ic, fa, fc⟩ := o
    clear hb HP1 HGOOD
    simp only [] at hfo hco hnc ⊢
    have HCKA := Lib.hid (fun W (h : Below W2.heap.size W2 W) => check_any _ W (hrd.below h) hfo hnc)
    have HG := Lib.hid (fun W (h : Below W2.heap.size W2 W) => (show RdG W ga sg from (hrd.below h).sg))
    have HS := Lib.hid (fun W (h : Below W2.heap.size W2 W) => (show RdS W sa sy from (hrd.below h).sy))
    have HRL := Lib.hid (fun W (h : Below W2.heap.size W2 W) => (show RdR W ra rl from (hrd.below h).rl))
    have hsgb : ∀ s ∈ sg, u64B s.place ∧ u64B s.size := fun s hs => ⟨(hfo.sg s hs).1, (hfo.sg s hs).2.1⟩
    have HSGB := Lib.hid hsgb
    have HSYB := Lib.hid (show ∀ s ∈ sy, u64B s.place ∧ u64B s.size from fun s hs => ⟨(hfo.sy s hs).1, (hfo.sy s hs).2.1⟩)
    have HRLB := Lib.hid (show ∀ x ∈ rl, u64B x.place from hfo.rl)
    have hlg : sg.length < 9223372036854775808 := hfo.sgl
    have hls : sy.length < 9223372036854775808 := hfo.syl
    have hlr : rl.length < 9223372036854775808 := hfo.rll
    obtain ⟨nn, hnn⟩ : ∃ n, nd.length = n := ⟨_, rfl⟩
    obtain ⟨ng, hng⟩ : ∃ n, sg.length = n := ⟨_, rfl⟩
    obtain ⟨ns, hns⟩ : ∃ n, sy.length = n := ⟨_, rfl⟩
    obtain ⟨nr, hnr⟩ : ∃ n, rl.length = n := ⟨_, rfl⟩
    obtain ⟨ni, hni⟩ : ∃ n, ini.length = n := ⟨_, rfl⟩
    obtain ⟨nf, hnf⟩ : ∃ n, fin.length = n := ⟨_, rfl⟩
    have HAT := Lib.hid (fun W (h : Below W2.heap.size W2 W) x n (hx : u64B x) (hn : u64B n) => at_any (.string ⟨nm.toArray⟩) (.slice na nn nc) (.slice sa ns sc) (.slice ra nr rc) (.slice ia ni ic) (.slice fa nf fc) ga ng gc sg x n W hng (show RdG W ga sg from (hrd.below h).sg) (by omega) hsgb hx hn)
    have HNG := Lib.hid hng
    have HNS := Lib.hid hns
    have HNR := Lib.hid hnr
    unfold objV objC at HCKA
    simp only [] at HCKA
    rw [hnn, hng, hns, hnr, hni, hnf] at HCKA ⊢
    rw [hng] at hlg
    rw [hns] at hls
    rw [hnr] at hlr
    clear hrd hsgb
    by_cases h0 : e1 = 0
    · subst h0
      have hck := hg rfl
      have HK := Lib.hid (fun (_ : True) => (check0 _).1 hck)
      rw [hck] at HCKA
      clear hg hfo hco hnc hck HBAD hnn hng hns hnr hni hnf
      go_upto_region 7 with fail
      obtain ⟨V, hV⟩ : ∃ V, W2.alloc (.cells #[.string ⟨nm.toArray⟩, .slice na nn nc, .slice ga ng gc, .slice sa ns sc, .slice ra nr rc, .slice ia ni ic, .slice fa nf fc] 30) = V := ⟨_, rfl⟩
      obtain ⟨B4, hB4⟩ : ∃ B, W2.heap.size = B := ⟨_, rfl⟩
      have HV := Lib.hid (show Below W2.heap.size W2 V by rw [← hV]; exact bAlloc (Below.refl _ _) _)
      have HB := Lib.hid (bTrans HB.out HV.out)
      have HX := Lib.hid (show BoxN V B4 #[.string ⟨nm.toArray⟩, .slice na nn nc, .slice ga ng gc, .slice sa ns sc, .slice ra nr rc, .slice ia ni ic, .slice fa nf fc] by rw [← hV, ← hB4]; exact BoxN.new W2 _ _)
      have hBV := HX.out.lt
      rw [hV]
      rw [hB4]
      clear hV hB4
      have h3 := Lib.hid (show segsB 0 sg = true from (HK.out trivial).2.2.1)
      go_wp2_with fail
      go_loopw [6] (fun i wr => ∃ k : Nat, i = .int .i64 k ∧ k ≤ ng ∧ Hid (Below V.heap.size V wr)) (fun i _ => ng - (intOf i).toNat)
      case atStart => exact ⟨0, rfl, by omega, Lib.hid (Below.refl _ _)⟩
      case round =>
        obtain ⟨k, rfl, hk, HBL⟩ := hrel
        by_cases hlt : k < ng
        · have hkl : k < sg.length := by rw [HNG.out]; exact hlt
          have HW := Lib.hid (bTrans HV.out HBL.out)
          obtain ⟨g, off, hge, hgl, c0, c1, c2, c3⟩ := (HG.out wr HW.out).at_ hkl
          subst hge
          have hat := segs_at h3.out k hkl
          have hbd := HSGB.out _ (List.getElem_mem hkl)
          obtain ⟨h1, h2⟩ := hat
          obtain ⟨s, hs⟩ : ∃ s, sg[k] = s := ⟨_, rfl⟩
          rw [hs] at c0 c1 c2 c3 h1 h2 hbd
          obtain ⟨p, hp⟩ : ∃ e, s.place = e := ⟨_, rfl⟩
          obtain ⟨z, hz⟩ : ∃ e, s.size = e := ⟨_, rfl⟩
          obtain ⟨f, hf⟩ : ∃ e, s.flags = e := ⟨_, rfl⟩
          obtain ⟨ba, hba⟩ : ∃ e, s.ba = e := ⟨_, rfl⟩
          obtain ⟨bl, hbl⟩ : ∃ e, s.bytes.length = e := ⟨_, rfl⟩
          obtain ⟨bc, hbc⟩ : ∃ e, s.bc = e := ⟨_, rfl⟩
          rw [hp] at c0 h1 h2 hbd
          rw [hz] at c1 h1 hbd
          rw [hf] at c2 h1
          rw [hba, hbl, hbc] at c3
          obtain ⟨m1, m2, m3, m4, m5, m6⟩ := h1
          obtain ⟨⟨p0, p1⟩, ⟨z0, z1⟩⟩ := hbd
          have b2 : wr.cell? ⟨B4, 2, none⟩ = some (.slice (some ⟨g, off, none⟩) ng gc) := (HX.out.below HBL.out hBV).cell 2
          have hBw : B4 < wr.heap.size := Nat.lt_of_lt_of_le hBV HBL.out.size
          have kk0 : (0 : Int) ≤ (k : Int) := by omega
          have kk1 : (k : Int) < (ng : Int) := by omega
          have n6 := and6 f m5 m6
          have nz : ¬ z = 0 := by omega
          have nzb : (z == 0) = false := beq_eq_false_iff_ne.2 nz
          have n6b : (bits .and .i64 f 6 == 6) = false := beq_eq_false_iff_ne.2 n6
          have mt : p.tmod 256 = 0 := by rw [Int.tmod_eq_emod_of_nonneg p0]; exact m1
          have HBL2 := Lib.hid (bTrans HBL.out (bAlloc (Below.refl wr.heap.size wr) (.cells #[.int .u64 p, .int .u64 z, .int .i64 f, .slice ba bl bc] 39)))
          have HX1 := Lib.hid (BoxN.new wr #[.int .u64 p, .int .u64 z, .int .i64 f, .slice ba bl bc] 39)
          clear hp hz hf hba hbl hbc hs
          rcases Nat.eq_zero_or_pos k with hk0 | hkp
          · subst hk0
            clear h2 hkl
            simp only [Nat.zero_mul, Nat.add_zero] at c0 c1 c2 c3
            go_upto_region 11 with fail
            obtain ⟨U, hU⟩ : ∃ U, wr.alloc (.cells #[.int .u64 p, .int .u64 z, .int .i64 f, .slice ba bl bc] 39) = U := ⟨_, rfl⟩
            rw [hU] at HBL2 HX1 ⊢
            have t0 : U.cell? ⟨wr.heap.size, 0, none⟩ = some (.int .u64 p) := HX1.out.cell 0
            have t1 : U.cell? ⟨wr.heap.size, 1, none⟩ = some (.int .u64 z) := HX1.out.cell 1
            have t2 : U.cell? ⟨wr.heap.size, 2, none⟩ = some (.int .i64 f) := HX1.out.cell 2
            clear hU
            go_quiet (fail)
            go_wp2_with fail
            go_roundw
            case rel => exact ⟨1, by go_num, by omega, Lib.hid (bTrans HBL2.out (below_drewN' _ _))⟩
            case measure => simp [intOf]; omega
          · obtain ⟨j, rfl⟩ : ∃ j, k = j + 1 := ⟨k - 1, by omega⟩
            rw [dif_neg (by omega)] at h2
            have h2 : upP ((sg[j]'(by omega)).place + (sg[j]'(by omega)).size) ≤ p := h2
            have hjl : j < sg.length := by omega
            obtain ⟨g2, off2, hge2, hgl2, d0, d1, -, -⟩ := (HG.out wr HW.out).at_ hjl
            cases hge2
            have hat := (segs_at h3.out j hjl).1
            have hbd := HSGB.out _ (List.getElem_mem hjl)
            obtain ⟨p', hp⟩ : ∃ e, sg[j].place = e := ⟨_, rfl⟩
            obtain ⟨z', hz⟩ : ∃ e, sg[j].size = e := ⟨_, rfl⟩
            rw [hp] at d0 h2 hat hbd
            rw [hz] at d1 h2 hat hbd
            obtain ⟨⟨q0, q1⟩, ⟨y0, y1⟩⟩ := hbd
            unfold upP at h2
            have w1 : IntKind.u64.wrap (p' + z') = p' + z' := by rw [IntKind.wrap_u64]; omega
            have w2 : IntKind.u64.wrap (p' + z' - 1) = p' + z' - 1 := by rw [IntKind.wrap_u64]; omega
            have hlt2 : ¬ p / 256 ≤ (p' + z' - 1) / 256 := by omega
            have sn0 : (0 : Int) ≤ p' + z' := by omega
            have sn1 : (0 : Int) ≤ p' + z' - 1 := by omega
            have hlt3 : ¬ p.tdiv 256 ≤ (p' + z' - 1).tdiv 256 := by rw [Int.tdiv_eq_ediv_of_nonneg p0, Int.tdiv_eq_ediv_of_nonneg sn1]; exact hlt2
            have hlt4 : ¬ IntKind.u64.wrap (p.tdiv 256) ≤ IntKind.u64.wrap ((p' + z' - 1).tdiv 256) := by rw [Int.tdiv_eq_ediv_of_nonneg p0, Int.tdiv_eq_ediv_of_nonneg sn1, IntKind.wrap_u64, IntKind.wrap_u64]; omega
            have ej2 : IntKind.i64.wrap (j : Int) = (j : Int) := IntWalk.i64_in _ (by omega)
            have ej3 : (0 : Int) ≤ (j : Int) := by omega
            have ej4 : (j : Int) < (ng : Int) := by omega
            have ej5 : (0 : Int) ≤ (j : Int) + 1 := by omega
            have ej6 : (j : Int) + 1 < (ng : Int) := by omega
            have ej7 : (0 : Int) < (j : Int) + 1 := by omega
            clear hp hz hat h2
            go_upto_region 11 with fail
            obtain ⟨U, hU⟩ : ∃ U, wr.alloc (.cells #[.int .u64 p, .int .u64 z, .int .i64 f, .slice ba bl bc] 39) = U := ⟨_, rfl⟩
            have hbu : Below wr.heap.size wr U := by rw [← hU]; exact bAlloc (Below.refl _ _) _
            rw [hU] at HBL2 HX1 ⊢
            have t0 : U.cell? ⟨wr.heap.size, 0, none⟩ = some (.int .u64 p) := HX1.out.cell 0
            have t1 : U.cell? ⟨wr.heap.size, 1, none⟩ = some (.int .u64 z) := HX1.out.cell 1
            have t2 : U.cell? ⟨wr.heap.size, 2, none⟩ = some (.int .i64 f) := HX1.out.cell 2
            have b2 := (hbu.cell (p := ⟨B4, 2, none⟩) hBw).trans b2
            have d0 := (hbu.cell (p := ⟨g, off + j * 4, none⟩) hgl).trans d0
            have d1 := (hbu.cell (p := ⟨g, off + j * 4 + 1, none⟩) hgl).trans d1
            clear hU hbu
            go_quiet (fail)
            go_wp2_with fail
            go_roundw
            case rel => exact ⟨j + 1 + 1, by go_num, by omega, Lib.hid (bTrans HBL2.out (below_drewN' _ _))⟩
            case measure => simp [intOf]; omega
        · have hk2 : ng = k := by omega
          subst hk2
          have b2 : wr.cell? ⟨B4, 2, none⟩ = some (.slice ga ng gc) := (HX.out.below HBL.out hBV).cell 2
          have b3 : wr.cell? ⟨B4, 3, none⟩ = some (.slice sa ns sc) := (HX.out.below HBL.out hBV).cell 3
          go_wp2_with fail
          clear b2 b3 hlt hk
          go_loopw [8] (fun i wr => ∃ k : Nat, i = .int .i64 k ∧ k ≤ ns ∧ Hid (Below V.heap.size V wr)) (fun i _ => ns - (intOf i).toNat)
          case atStart => exact ⟨0, rfl, by omega, HBL⟩
          case round =>
            obtain ⟨k, rfl, hk, HBL⟩ := hrel
            by_cases hlt : k < ns
            · have hkl : k < sy.length := by rw [HNS.out]; exact hlt
              have HW := Lib.hid (bTrans HV.out HBL.out)
              obtain ⟨g, off, hge, hgl, -, -, c2, c3, -, -, -, c7⟩ := (HS.out wr HW.out).at_ hkl
              subst hge
              have hsb : symB sg sy[k] = true := List.all_eq_true.1 (HK.out trivial).2.2.2.1 _ (List.getElem_mem hkl)
              have hat := syms_at hsb
              have hbd := HSYB.out _ (List.getElem_mem hkl)
              obtain ⟨s, hs⟩ : ∃ s, sy[k] = s := ⟨_, rfl⟩
              rw [hs] at c2 c3 c7 hat hbd
              obtain ⟨p, hp⟩ : ∃ e, s.place = e := ⟨_, rfl⟩
              obtain ⟨z, hz⟩ : ∃ e, s.size = e := ⟨_, rfl⟩
              obtain ⟨d, hd⟩ : ∃ e, s.defd = e := ⟨_, rfl⟩
              rw [hp] at c2 hat hbd
              rw [hz] at c3 hat hbd
              rw [hd] at c7 hat
              have HC := HAT.out wr.drew (bTrans HW.out (below_drewN' wr 1)) p z hbd.1 hbd.2
              have hqb := firstI_lt (fun s => hasB s p z) sg
              rw [HNG.out] at hqb
              have hqb : -1 ≤ atF sg p z ∧ atF sg p z < (ng : Int) := hqb
              obtain ⟨q, hq⟩ : ∃ q, atF sg p z = q := ⟨_, rfl⟩
              rw [hq] at HC hat hqb
              have HC := Lib.hid HC
              have HATQ := Lib.hid hat
              obtain ⟨-, hqb⟩ := hqb
              clear hsb hs hp hz hd hq hkl hbd hat
              have kk0 : (0 : Int) ≤ (k : Int) := by omega
              have kk1 : (k : Int) < (ns : Int) := by omega
              have b0 : wr.cell? ⟨B4, 0, none⟩ = some (.string ⟨nm.toArray⟩) := (HX.out.below HBL.out hBV).cell 0
              have b1 : wr.cell? ⟨B4, 1, none⟩ = some (.slice na nn nc) := (HX.out.below HBL.out hBV).cell 1
              have b2 : wr.cell? ⟨B4, 2, none⟩ = some (.slice ga ng gc) := (HX.out.below HBL.out hBV).cell 2
              have b3 : wr.cell? ⟨B4, 3, none⟩ = some (.slice (some ⟨g, off, none⟩) ns sc) := (HX.out.below HBL.out hBV).cell 3
              have b4 : wr.cell? ⟨B4, 4, none⟩ = some (.slice ra nr rc) := (HX.out.below HBL.out hBV).cell 4
              have b5 : wr.cell? ⟨B4, 5, none⟩ = some (.slice ia ni ic) := (HX.out.below HBL.out hBV).cell 5
              have b6 : wr.cell? ⟨B4, 6, none⟩ = some (.slice fa nf fc) := (HX.out.below HBL.out hBV).cell 6
              have HS0 := Lib.hid (show wr.cell? ⟨B4, 0, none⟩ = some (.string ⟨nm.toArray⟩) ∧ wr.cell? ⟨B4, 1, none⟩ = some (.slice na nn nc) ∧ wr.cell? ⟨B4, 2, none⟩ = some (.slice ga ng gc) ∧ wr.cell? ⟨B4, 3, none⟩ = some (.slice (some ⟨g, off, none⟩) ns sc) ∧ wr.cell? ⟨B4, 4, none⟩ = some (.slice ra nr rc) ∧ wr.cell? ⟨B4, 5, none⟩ = some (.slice ia ni ic) ∧ wr.cell? ⟨B4, 6, none⟩ = some (.slice fa nf fc) ∧ wr.cell? ⟨g, off + k * 8 + 2, none⟩ = some (.int .u64 p) ∧ wr.cell? ⟨g, off + k * 8 + 3, none⟩ = some (.int .u64 z) ∧ wr.cell? ⟨g, off + k * 8 + 7, none⟩ = some (.bool d) from ⟨b0, b1, b2, b3, b4, b5, b6, c2, c3, c7⟩)
              go_upto_region 16 with fail
              go_region_held3 (fun W => W.cell? ⟨B4, 0, none⟩ = some (.string ⟨nm.toArray⟩) ∧ W.cell? ⟨B4, 1, none⟩ = some (.slice na nn nc) ∧ W.cell? ⟨B4, 2, none⟩ = some (.slice ga ng gc) ∧ W.cell? ⟨B4, 3, none⟩ = some (.slice (some ⟨g, off, none⟩) ns sc) ∧ W.cell? ⟨B4, 4, none⟩ = some (.slice ra nr rc) ∧ W.cell? ⟨B4, 5, none⟩ = some (.slice ia ni ic) ∧ W.cell? ⟨B4, 6, none⟩ = some (.slice fa nf fc) ∧ W.cell? ⟨g, off + k * 8 + 2, none⟩ = some (.int .u64 p) ∧ W.cell? ⟨g, off + k * 8 + 3, none⟩ = some (.int .u64 z) ∧ W.cell? ⟨g, off + k * 8 + 7, none⟩ = some (.bool d))
                (first | exact HS1.out | exact HS0.out | go_keep)
                (first | (go_at_call 11; refine HC.out.mono ?_; rintro e w' ⟨rfl, hb'⟩; have HB' := Lib.hid (bTrans HBL.out (bTrans (below_drewN' wr 1) hb')); have HS1 := Lib.hid (show w'.cell? ⟨B4, 0, none⟩ = some (.string ⟨nm.toArray⟩) ∧ w'.cell? ⟨B4, 1, none⟩ = some (.slice na nn nc) ∧ w'.cell? ⟨B4, 2, none⟩ = some (.slice ga ng gc) ∧ w'.cell? ⟨B4, 3, none⟩ = some (.slice (some ⟨g, off, none⟩) ns sc) ∧ w'.cell? ⟨B4, 4, none⟩ = some (.slice ra nr rc) ∧ w'.cell? ⟨B4, 5, none⟩ = some (.slice ia ni ic) ∧ w'.cell? ⟨B4, 6, none⟩ = some (.slice fa nf fc) ∧ w'.cell? ⟨g, off + k * 8 + 2, none⟩ = some (.int .u64 p) ∧ w'.cell? ⟨g, off + k * 8 + 3, none⟩ = some (.int .u64 z) ∧ w'.cell? ⟨g, off + k * 8 + 7, none⟩ = some (.bool d) from ⟨(hb'.cell (p := ⟨B4, 0, none⟩) (Nat.lt_of_lt_of_le hBV HBL.out.size)).trans b0, (hb'.cell (p := ⟨B4, 1, none⟩) (Nat.lt_of_lt_of_le hBV HBL.out.size)).trans b1, (hb'.cell (p := ⟨B4, 2, none⟩) (Nat.lt_of_lt_of_le hBV HBL.out.size)).trans b2, (hb'.cell (p := ⟨B4, 3, none⟩) (Nat.lt_of_lt_of_le hBV HBL.out.size)).trans b3, (hb'.cell (p := ⟨B4, 4, none⟩) (Nat.lt_of_lt_of_le hBV HBL.out.size)).trans b4, (hb'.cell (p := ⟨B4, 5, none⟩) (Nat.lt_of_lt_of_le hBV HBL.out.size)).trans b5, (hb'.cell (p := ⟨B4, 6, none⟩) (Nat.lt_of_lt_of_le hBV HBL.out.size)).trans b6, (hb'.cell (p := ⟨g, off + k * 8 + 2, none⟩) hgl).trans c2, (hb'.cell (p := ⟨g, off + k * 8 + 3, none⟩) hgl).trans c3, (hb'.cell (p := ⟨g, off + k * 8 + 7, none⟩) hgl).trans c7⟩); clear hb'))
              obtain ⟨x0, x1, x2, x3, x4, x5, x6, x7, x8, x9⟩ := HS1.out
              clear b0 b1 b2 b3 b4 b5 b6 c2 c3 c7
              cases d with
              | false =>
                go_wp2_with fail
                go_roundw
                case rel => exact ⟨k + 1, by go_num, by omega, HB'⟩
                case measure => simp [intOf]; omega
              | true =>
                have hq0 : 0 ≤ q := HATQ.out rfl
                have hq1 : ¬ q < 0 := by omega
                have hq2 : ¬ (ng : Int) ≤ q := by omega
                go_wp2_with fail
                go_roundw
                case rel => exact ⟨k + 1, by go_num, by omega, HB'⟩
                case measure => simp [intOf]; omega
            · have hk2 : ns = k := by omega
              subst hk2
              have b3 : wr.cell? ⟨B4, 3, none⟩ = some (.slice sa ns sc) := (HX.out.below HBL.out hBV).cell 3
              have b4 : wr.cell? ⟨B4, 4, none⟩ = some (.slice ra nr rc) := (HX.out.below HBL.out hBV).cell 4
              go_wp2_with fail
              clear b3 b4 hlt hk
              go_loopw [10] (fun i wr => ∃ k : Nat, i = .int .i64 k ∧ k ≤ nr ∧ Hid (Below V.heap.size V wr)) (fun i _ => nr - (intOf i).toNat)
              case atStart => exact ⟨0, rfl, by omega, HBL⟩
              case round =>
                obtain ⟨k, rfl, hk, HBL⟩ := hrel
                by_cases hlt : k < nr
                · have hkl : k < rl.length := by rw [HNR.out]; exact hlt
                  have HW := Lib.hid (bTrans HV.out HBL.out)
                  obtain ⟨g, off, hge, hgl, c0, c1⟩ := (HRL.out wr HW.out).at_ hkl
                  subst hge
                  have hr3 := rels_at (HK.out trivial).2.2.2.2.1 k hkl
                  have hy0 : 0 ≤ rl[k].sym := hr3.1
                  have hy1 : rl[k].sym < sy.length := hr3.2.1
                  have hyw : writeB sg rl[k].place (roomZ sy rl[k].sym) = true := hr3.2.2
                  clear hr3
                  have hbd := HRLB.out _ (List.getElem_mem hkl)
                  obtain ⟨p, hp⟩ : ∃ e, rl[k].place = e := ⟨_, rfl⟩
                  obtain ⟨y, hy⟩ : ∃ e, rl[k].sym = e := ⟨_, rfl⟩
                  rw [hp] at c0 hbd hyw
                  rw [hy] at c1 hy0 hy1 hyw
                  obtain ⟨n, rfl⟩ := Int.eq_ofNat_of_zero_le hy0
                  have hnl : n < sy.length := by omega
                  have HWR := Lib.hid hyw
                  obtain ⟨p0, p1⟩ := hbd
                  rw [HNS.out] at hy1
                  obtain ⟨gs, offs, hse, -, -, -, -, -, e4, -, -, -⟩ := (HS.out wr HW.out).at_ hnl
                  subst hse
                  have hkd : kindAt sy (n : Int) = sy[n].kind := by unfold kindAt; rw [Int.toNat_natCast, List.getElem?_eq_getElem hnl]
                  obtain ⟨kd, he⟩ : ∃ kd, sy[n].kind = kd := ⟨_, rfl⟩
                  rw [he] at e4 hkd
                  have HKD := Lib.hid hkd
                  have kk0 : (0 : Int) ≤ (k : Int) := by omega
                  have kk1 : (k : Int) < (nr : Int) := by omega
                  have yy1 : ¬ (ns : Int) ≤ (n : Int) := by omega
                  have hBw : B4 < wr.heap.size := Nat.lt_of_lt_of_le hBV HBL.out.size
                  clear hkl hp hy hnl he hkd hyw
                  by_cases hk1 : kd = 1
                  · have hrm : roomZ sy (n : Int) = 64 := by unfold roomZ; rw [HKD.out, if_pos hk1]
                    have hw := HWR.out
                    rw [hrm] at hw
                    obtain ⟨q, hql, hqa, hqf⟩ := at_write h3.out (by decide) hw
                    obtain ⟨gg, offg, hgge, hggl, -, -, f2, -⟩ := (HG.out wr HW.out).at_ hql
                    subst hgge
                    obtain ⟨f, hf⟩ : ∃ f, sg[q].flags = f := ⟨_, rfl⟩
                    rw [hf] at f2 hqf
                    have hk1b : (kd == 1) = true := beq_iff_eq.2 hk1
                    have n2 := and2w f hqf
                    have n2b : (bits .and .i64 f 2 == 0) = false := beq_eq_false_iff_ne.2 n2
                    have hqn : q < ng := by rw [← HNG.out]; exact hql
                    have q0 : ¬ (q : Int) < 0 := by omega
                    have q1 : ¬ (ng : Int) ≤ (q : Int) := by omega
                    have q2 : (q : Int) < (ng : Int) := by omega
                    have q3 : (0 : Int) ≤ (q : Int) := by omega
                    have HCF := HAT.out
                    have HCF := Lib.hid (fun W (h : Below W2.heap.size W2 W) => (show Calls Try.prog 11 #[.agg #[.string ⟨nm.toArray⟩, .slice na nn nc, .slice (some ⟨gg, offg, none⟩) ng gc, .slice (some ⟨gs, offs, none⟩) ns sc, .slice (some ⟨g, off, none⟩) nr rc, .slice ia ni ic, .slice fa nf fc], .int .u64 p, .int .u64 64] W fun e w' => e = .returned (.int .i64 (q : Int)) ∧ Below W.heap.size W w' from by have h0 := HCF W h p 64 ⟨p0, p1⟩ ⟨by decide, by decide⟩; rw [hqa] at h0; exact h0))
                    clear hrm hw hqa hf hqf hql
                    have b0 : wr.cell? ⟨B4, 0, none⟩ = some (.string ⟨nm.toArray⟩) := (HX.out.below HBL.out hBV).cell 0
                    have b1 : wr.cell? ⟨B4, 1, none⟩ = some (.slice na nn nc) := (HX.out.below HBL.out hBV).cell 1
                    have b2 : wr.cell? ⟨B4, 2, none⟩ = some (.slice (some ⟨gg, offg, none⟩) ng gc) := (HX.out.below HBL.out hBV).cell 2
                    have b3 : wr.cell? ⟨B4, 3, none⟩ = some (.slice (some ⟨gs, offs, none⟩) ns sc) := (HX.out.below HBL.out hBV).cell 3
                    have b4 : wr.cell? ⟨B4, 4, none⟩ = some (.slice (some ⟨g, off, none⟩) nr rc) := (HX.out.below HBL.out hBV).cell 4
                    have b5 : wr.cell? ⟨B4, 5, none⟩ = some (.slice ia ni ic) := (HX.out.below HBL.out hBV).cell 5
                    have b6 : wr.cell? ⟨B4, 6, none⟩ = some (.slice fa nf fc) := (HX.out.below HBL.out hBV).cell 6
                    go_upto_region 23 with fail
                    go_quiet (fail)
                    obtain ⟨U, hU⟩ : ∃ U, wr.drewN nq = U := ⟨_, rfl⟩
                    have tr : ∀ {b o : Nat} {v : Value}, wr.cell? ⟨b, o, none⟩ = some v → U.cell? ⟨b, o, none⟩ = some v := fun {b o v} h => by rw [← hU]; exact h
                    have HBU := Lib.hid (show Below wr.heap.size wr U by rw [← hU]; exact below_drewN' wr _)
                    rw [hU]
                    replace b0 := tr b0
                    replace b1 := tr b1
                    replace b2 := tr b2
                    replace b3 := tr b3
                    replace b4 := tr b4
                    replace b5 := tr b5
                    replace b6 := tr b6
                    replace c0 := tr c0
                    replace c1 := tr c1
                    replace f2 := tr f2
                    replace e4 := tr e4
                    clear tr hU
                    have HBL := Lib.hid (bTrans HBL.out HBU.out)
                    have hgl := Nat.lt_of_lt_of_le hgl HBU.out.size
                    have hggl := Nat.lt_of_lt_of_le hggl HBU.out.size
                    have HC := Lib.hid (HCF.out U.drew (bTrans (bTrans HW.out HBU.out) (below_drewN' U 1)))
                    have HS0 := Lib.hid (show U.cell? ⟨B4, 0, none⟩ = some (.string ⟨nm.toArray⟩) ∧ U.cell? ⟨B4, 1, none⟩ = some (.slice na nn nc) ∧ U.cell? ⟨B4, 2, none⟩ = some (.slice (some ⟨gg, offg, none⟩) ng gc) ∧ U.cell? ⟨B4, 3, none⟩ = some (.slice (some ⟨gs, offs, none⟩) ns sc) ∧ U.cell? ⟨B4, 4, none⟩ = some (.slice (some ⟨g, off, none⟩) nr rc) ∧ U.cell? ⟨B4, 5, none⟩ = some (.slice ia ni ic) ∧ U.cell? ⟨B4, 6, none⟩ = some (.slice fa nf fc) ∧ U.cell? ⟨g, off + k * 2, none⟩ = some (.int .u64 p) ∧ U.cell? ⟨g, off + k * 2 + 1, none⟩ = some (.int .i64 (n : Int)) ∧ U.cell? ⟨gg, offg + q * 4 + 2, none⟩ = some (.int .i64 f) from ⟨b0, b1, b2, b3, b4, b5, b6, c0, c1, f2⟩)
                    go_upto_region 25 with fail
                    go_region_held3 (fun W => W.cell? ⟨B4, 0, none⟩ = some (.string ⟨nm.toArray⟩) ∧ W.cell? ⟨B4, 1, none⟩ = some (.slice na nn nc) ∧ W.cell? ⟨B4, 2, none⟩ = some (.slice (some ⟨gg, offg, none⟩) ng gc) ∧ W.cell? ⟨B4, 3, none⟩ = some (.slice (some ⟨gs, offs, none⟩) ns sc) ∧ W.cell? ⟨B4, 4, none⟩ = some (.slice (some ⟨g, off, none⟩) nr rc) ∧ W.cell? ⟨B4, 5, none⟩ = some (.slice ia ni ic) ∧ W.cell? ⟨B4, 6, none⟩ = some (.slice fa nf fc) ∧ W.cell? ⟨g, off + k * 2, none⟩ = some (.int .u64 p) ∧ W.cell? ⟨g, off + k * 2 + 1, none⟩ = some (.int .i64 (n : Int)) ∧ W.cell? ⟨gg, offg + q * 4 + 2, none⟩ = some (.int .i64 f))
                      (first | exact HS1.out | exact HS0.out | go_keep)
                      (first | (go_at_call 11; refine HC.out.mono ?_; rintro e w' ⟨rfl, hb'⟩; have HB' := Lib.hid (bTrans HBL.out (bTrans (below_drewN' U 1) hb')); have HS1 := Lib.hid (show w'.cell? ⟨B4, 0, none⟩ = some (.string ⟨nm.toArray⟩) ∧ w'.cell? ⟨B4, 1, none⟩ = some (.slice na nn nc) ∧ w'.cell? ⟨B4, 2, none⟩ = some (.slice (some ⟨gg, offg, none⟩) ng gc) ∧ w'.cell? ⟨B4, 3, none⟩ = some (.slice (some ⟨gs, offs, none⟩) ns sc) ∧ w'.cell? ⟨B4, 4, none⟩ = some (.slice (some ⟨g, off, none⟩) nr rc) ∧ w'.cell? ⟨B4, 5, none⟩ = some (.slice ia ni ic) ∧ w'.cell? ⟨B4, 6, none⟩ = some (.slice fa nf fc) ∧ w'.cell? ⟨g, off + k * 2, none⟩ = some (.int .u64 p) ∧ w'.cell? ⟨g, off + k * 2 + 1, none⟩ = some (.int .i64 (n : Int)) ∧ w'.cell? ⟨gg, offg + q * 4 + 2, none⟩ = some (.int .i64 f) from ⟨(hb'.cell (p := ⟨B4, 0, none⟩) (Nat.lt_of_lt_of_le hBV HBL.out.size)).trans b0, (hb'.cell (p := ⟨B4, 1, none⟩) (Nat.lt_of_lt_of_le hBV HBL.out.size)).trans b1, (hb'.cell (p := ⟨B4, 2, none⟩) (Nat.lt_of_lt_of_le hBV HBL.out.size)).trans b2, (hb'.cell (p := ⟨B4, 3, none⟩) (Nat.lt_of_lt_of_le hBV HBL.out.size)).trans b3, (hb'.cell (p := ⟨B4, 4, none⟩) (Nat.lt_of_lt_of_le hBV HBL.out.size)).trans b4, (hb'.cell (p := ⟨B4, 5, none⟩) (Nat.lt_of_lt_of_le hBV HBL.out.size)).trans b5, (hb'.cell (p := ⟨B4, 6, none⟩) (Nat.lt_of_lt_of_le hBV HBL.out.size)).trans b6, (hb'.cell (p := ⟨g, off + k * 2, none⟩) hgl).trans c0, (hb'.cell (p := ⟨g, off + k * 2 + 1, none⟩) hgl).trans c1, (hb'.cell (p := ⟨gg, offg + q * 4 + 2, none⟩) hggl).trans f2⟩); clear hb'))
                    obtain ⟨x0, x1, x2, x3, x4, x5, x6, x7, x8, x9⟩ := HS1.out
                    clear b0 b1 b2 b3 b4 b5 b6 c0 c1 f2 e4
                    go_upto_region 26 with fail
                    go_quiet (fail)
                    go_wp2_with fail
                    go_roundw
                    case rel => exact ⟨k + 1, by go_num, by omega, Lib.hid (bTrans HB'.out (below_drewN' _ _))⟩
                    case measure => simp [intOf]; omega
                  · have hrm : roomZ sy (n : Int) = 32 := by unfold roomZ; rw [HKD.out, if_neg hk1]
                    have hw := HWR.out
                    rw [hrm] at hw
                    obtain ⟨q, hql, hqa, hqf⟩ := at_write h3.out (by decide) hw
                    obtain ⟨gg, offg, hgge, hggl, -, -, f2, -⟩ := (HG.out wr HW.out).at_ hql
                    subst hgge
                    obtain ⟨f, hf⟩ : ∃ f, sg[q].flags = f := ⟨_, rfl⟩
                    rw [hf] at f2 hqf
                    have hk1b : (kd == 1) = false := beq_eq_false_iff_ne.2 hk1
                    have n2 := and2w f hqf
                    have n2b : (bits .and .i64 f 2 == 0) = false := beq_eq_false_iff_ne.2 n2
                    have hqn : q < ng := by rw [← HNG.out]; exact hql
                    have q0 : ¬ (q : Int) < 0 := by omega
                    have q1 : ¬ (ng : Int) ≤ (q : Int) := by omega
                    have q2 : (q : Int) < (ng : Int) := by omega
                    have q3 : (0 : Int) ≤ (q : Int) := by omega
                    have HCF := HAT.out
                    have HCF := Lib.hid (fun W (h : Below W2.heap.size W2 W) => (show Calls Try.prog 11 #[.agg #[.string ⟨nm.toArray⟩, .slice na nn nc, .slice (some ⟨gg, offg, none⟩) ng gc, .slice (some ⟨gs, offs, none⟩) ns sc, .slice (some ⟨g, off, none⟩) nr rc, .slice ia ni ic, .slice fa nf fc], .int .u64 p, .int .u64 32] W fun e w' => e = .returned (.int .i64 (q : Int)) ∧ Below W.heap.size W w' from by have h0 := HCF W h p 32 ⟨p0, p1⟩ ⟨by decide, by decide⟩; rw [hqa] at h0; exact h0))
                    clear hrm hw hqa hf hqf hql
                    have b0 : wr.cell? ⟨B4, 0, none⟩ = some (.string ⟨nm.toArray⟩) := (HX.out.below HBL.out hBV).cell 0
                    have b1 : wr.cell? ⟨B4, 1, none⟩ = some (.slice na nn nc) := (HX.out.below HBL.out hBV).cell 1
                    have b2 : wr.cell? ⟨B4, 2, none⟩ = some (.slice (some ⟨gg, offg, none⟩) ng gc) := (HX.out.below HBL.out hBV).cell 2
                    have b3 : wr.cell? ⟨B4, 3, none⟩ = some (.slice (some ⟨gs, offs, none⟩) ns sc) := (HX.out.below HBL.out hBV).cell 3
                    have b4 : wr.cell? ⟨B4, 4, none⟩ = some (.slice (some ⟨g, off, none⟩) nr rc) := (HX.out.below HBL.out hBV).cell 4
                    have b5 : wr.cell? ⟨B4, 5, none⟩ = some (.slice ia ni ic) := (HX.out.below HBL.out hBV).cell 5
                    have b6 : wr.cell? ⟨B4, 6, none⟩ = some (.slice fa nf fc) := (HX.out.below HBL.out hBV).cell 6
                    go_upto_region 23 with fail
                    go_quiet (fail)
                    obtain ⟨U, hU⟩ : ∃ U, wr.drewN nq = U := ⟨_, rfl⟩
                    have tr : ∀ {b o : Nat} {v : Value}, wr.cell? ⟨b, o, none⟩ = some v → U.cell? ⟨b, o, none⟩ = some v := fun {b o v} h => by rw [← hU]; exact h
                    have HBU := Lib.hid (show Below wr.heap.size wr U by rw [← hU]; exact below_drewN' wr _)
                    rw [hU]
                    replace b0 := tr b0
                    replace b1 := tr b1
                    replace b2 := tr b2
                    replace b3 := tr b3
                    replace b4 := tr b4
                    replace b5 := tr b5
                    replace b6 := tr b6
                    replace c0 := tr c0
                    replace c1 := tr c1
                    replace f2 := tr f2
                    replace e4 := tr e4
                    clear tr hU
                    have HBL := Lib.hid (bTrans HBL.out HBU.out)
                    have hgl := Nat.lt_of_lt_of_le hgl HBU.out.size
                    have hggl := Nat.lt_of_lt_of_le hggl HBU.out.size
                    have HC := Lib.hid (HCF.out U.drew (bTrans (bTrans HW.out HBU.out) (below_drewN' U 1)))
                    have HS0 := Lib.hid (show U.cell? ⟨B4, 0, none⟩ = some (.string ⟨nm.toArray⟩) ∧ U.cell? ⟨B4, 1, none⟩ = some (.slice na nn nc) ∧ U.cell? ⟨B4, 2, none⟩ = some (.slice (some ⟨gg, offg, none⟩) ng gc) ∧ U.cell? ⟨B4, 3, none⟩ = some (.slice (some ⟨gs, offs, none⟩) ns sc) ∧ U.cell? ⟨B4, 4, none⟩ = some (.slice (some ⟨g, off, none⟩) nr rc) ∧ U.cell? ⟨B4, 5, none⟩ = some (.slice ia ni ic) ∧ U.cell? ⟨B4, 6, none⟩ = some (.slice fa nf fc) ∧ U.cell? ⟨g, off + k * 2, none⟩ = some (.int .u64 p) ∧ U.cell? ⟨g, off + k * 2 + 1, none⟩ = some (.int .i64 (n : Int)) ∧ U.cell? ⟨gg, offg + q * 4 + 2, none⟩ = some (.int .i64 f) from ⟨b0, b1, b2, b3, b4, b5, b6, c0, c1, f2⟩)
                    go_upto_region 25 with fail
                    go_region_held3 (fun W => W.cell? ⟨B4, 0, none⟩ = some (.string ⟨nm.toArray⟩) ∧ W.cell? ⟨B4, 1, none⟩ = some (.slice na nn nc) ∧ W.cell? ⟨B4, 2, none⟩ = some (.slice (some ⟨gg, offg, none⟩) ng gc) ∧ W.cell? ⟨B4, 3, none⟩ = some (.slice (some ⟨gs, offs, none⟩) ns sc) ∧ W.cell? ⟨B4, 4, none⟩ = some (.slice (some ⟨g, off, none⟩) nr rc) ∧ W.cell? ⟨B4, 5, none⟩ = some (.slice ia ni ic) ∧ W.cell? ⟨B4, 6, none⟩ = some (.slice fa nf fc) ∧ W.cell? ⟨g, off + k * 2, none⟩ = some (.int .u64 p) ∧ W.cell? ⟨g, off + k * 2 + 1, none⟩ = some (.int .i64 (n : Int)) ∧ W.cell? ⟨gg, offg + q * 4 + 2, none⟩ = some (.int .i64 f))
                      (first | exact HS1.out | exact HS0.out | go_keep)
                      (first | (go_at_call 11; refine HC.out.mono ?_; rintro e w' ⟨rfl, hb'⟩; have HB' := Lib.hid (bTrans HBL.out (bTrans (below_drewN' U 1) hb')); have HS1 := Lib.hid (show w'.cell? ⟨B4, 0, none⟩ = some (.string ⟨nm.toArray⟩) ∧ w'.cell? ⟨B4, 1, none⟩ = some (.slice na nn nc) ∧ w'.cell? ⟨B4, 2, none⟩ = some (.slice (some ⟨gg, offg, none⟩) ng gc) ∧ w'.cell? ⟨B4, 3, none⟩ = some (.slice (some ⟨gs, offs, none⟩) ns sc) ∧ w'.cell? ⟨B4, 4, none⟩ = some (.slice (some ⟨g, off, none⟩) nr rc) ∧ w'.cell? ⟨B4, 5, none⟩ = some (.slice ia ni ic) ∧ w'.cell? ⟨B4, 6, none⟩ = some (.slice fa nf fc) ∧ w'.cell? ⟨g, off + k * 2, none⟩ = some (.int .u64 p) ∧ w'.cell? ⟨g, off + k * 2 + 1, none⟩ = some (.int .i64 (n : Int)) ∧ w'.cell? ⟨gg, offg + q * 4 + 2, none⟩ = some (.int .i64 f) from ⟨(hb'.cell (p := ⟨B4, 0, none⟩) (Nat.lt_of_lt_of_le hBV HBL.out.size)).trans b0, (hb'.cell (p := ⟨B4, 1, none⟩) (Nat.lt_of_lt_of_le hBV HBL.out.size)).trans b1, (hb'.cell (p := ⟨B4, 2, none⟩) (Nat.lt_of_lt_of_le hBV HBL.out.size)).trans b2, (hb'.cell (p := ⟨B4, 3, none⟩) (Nat.lt_of_lt_of_le hBV HBL.out.size)).trans b3, (hb'.cell (p := ⟨B4, 4, none⟩) (Nat.lt_of_lt_of_le hBV HBL.out.size)).trans b4, (hb'.cell (p := ⟨B4, 5, none⟩) (Nat.lt_of_lt_of_le hBV HBL.out.size)).trans b5, (hb'.cell (p := ⟨B4, 6, none⟩) (Nat.lt_of_lt_of_le hBV HBL.out.size)).trans b6, (hb'.cell (p := ⟨g, off + k * 2, none⟩) hgl).trans c0, (hb'.cell (p := ⟨g, off + k * 2 + 1, none⟩) hgl).trans c1, (hb'.cell (p := ⟨gg, offg + q * 4 + 2, none⟩) hggl).trans f2⟩); clear hb'))
                    obtain ⟨x0, x1, x2, x3, x4, x5, x6, x7, x8, x9⟩ := HS1.out
                    clear b0 b1 b2 b3 b4 b5 b6 c0 c1 f2 e4
                    go_upto_region 26 with fail
                    go_quiet (fail)
                    go_wp2_with fail
                    go_roundw
                    case rel => exact ⟨k + 1, by go_num, by omega, Lib.hid (bTrans HB'.out (below_drewN' _ _))⟩
                    case measure => simp [intOf]; omega
                · have hk2 : nr = k := by omega
                  subst hk2
                  have b0 : wr.cell? ⟨B4, 0, none⟩ = some (.string ⟨nm.toArray⟩) := (HX.out.below HBL.out hBV).cell 0
                  have b1 : wr.cell? ⟨B4, 1, none⟩ = some (.slice na nn nc) := (HX.out.below HBL.out hBV).cell 1
                  have b2 : wr.cell? ⟨B4, 2, none⟩ = some (.slice ga ng gc) := (HX.out.below HBL.out hBV).cell 2
                  have b3 : wr.cell? ⟨B4, 3, none⟩ = some (.slice sa ns sc) := (HX.out.below HBL.out hBV).cell 3
                  have b4 : wr.cell? ⟨B4, 4, none⟩ = some (.slice ra nr rc) := (HX.out.below HBL.out hBV).cell 4
                  have b5 : wr.cell? ⟨B4, 5, none⟩ = some (.slice ia ni ic) := (HX.out.below HBL.out hBV).cell 5
                  have b6 : wr.cell? ⟨B4, 6, none⟩ = some (.slice fa nf fc) := (HX.out.below HBL.out hBV).cell 6
                  go_wp2_with fail
                  refine (HCKA.out wr (bTrans HV.out HBL.out)).mono ?_; rintro e w' ⟨rfl, hb'⟩
                  have HBF := Lib.hid (bTrans HB.out (bTrans HBL.out hb'))
                  clear hb'
                  go_wp2_with fail
                  go_ret
                  exact ⟨rfl, HBF.out⟩
    · have hco : coreO _ = emptyC := hco.trans (HBAD.out h0)
      have hnm : nm = [] := congrArg Core.name hco
      have hsy : sy = [] := congrArg Core.syms hco
      have hs0 : ns = 0 := by rw [← hns, hsy]; rfl
      have hn0 : (e1 != 0) = true := bne_iff_ne.2 h0
      subst hs0
      subst hnm
      clear hg hfo hco hnc HBAD hnn hng hns hnr hni hnf hsy 
      go_wp2_with fail
      go_ret
      exact ⟨rfl, bAlloc HB.out _⟩
  · have k1 : (4000 : Int) < (m : Int) := by omega
    go_wp2_with fail
    go_ret
    exact ⟨rfl, HB.out⟩
end Go.Proofs.Ytknldomgmogccaa
