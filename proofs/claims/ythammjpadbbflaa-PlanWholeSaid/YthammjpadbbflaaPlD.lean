/- The document's Link: contract. -/
import Derived.Test.YthammjpadbbflaaPlC
import Derived.Deep.RegionWith
namespace Go.Proofs.Ythammjpadbbflaa
set_option linter.unusedVariables false
set_option linter.unusedSimpArgs false
open Go.Joins Go.ChangeShapes Go.WideShapes Go.ChangeAt Go.RowKit Go.Deep

set_option maxHeartbeats 4000000 in
set_option maxRecDepth 100000 in
theorem rlink_any (a b g : Option Addr) (c d f : Nat) (l : List Ob) (sc os : List Nat) (w : World) (hl : RdL w a l) (hs : Rd w b sc.length (ordV sc)) (hos : Rd w g os.length (ordV os)) (hsc : ∀ k ∈ sc, k < l.length) (hoc : ∀ k ∈ os, k < l.length) (hf : FewO l) (hr : RelsOk l) (hn : sc.length ≤ 100) (hno : os.length ≤ 10) :
    Calls Try.prog 26 #[.slice a l.length c, .slice b sc.length d, .slice g os.length f] w fun e w' => ∃ a' c', e = .returned (.tuple #[.slice a' (linkF l sc os []).1.length c', .agg #[.int .i64 (badL (linkF l sc os []).2).o, .int .i64 (badL (linkF l sc os []).2).r, .int .i64 (badL (linkF l sc os []).2).t, .int .i64 (badL (linkF l sc os []).2).s], .int .i64 (errL (linkF l sc os []).2)]) ∧ RdK w' a' (linkF l sc os []).1 ∧ Below w.heap.size w w' := by
  have HBI := Lib.hid (fun W (hW : Below w.heap.size w W) (o : Nat) (y : Int) (ho : o < l.length) (hy0 : 0 ≤ y) (hy : y < ((symsAt l o).length : Int)) => rbindB_any a b c d l sc o y W (hl.below hW) (hs.below hW) hsc hf hn ho hy0 hy)
  have HL := Lib.hid hl
  have HOS := Lib.hid hos
  have HOC := Lib.hid hoc
  have HRE := Lib.hid hr
  obtain ⟨R, hR⟩ : ∃ R, linkF l sc os [] = R := ⟨_, rfl⟩
  rw [hR]
  have HR0 := Lib.hid (show linkF l sc (os.drop 0) [] = R by rw [List.drop_zero]; exact hR)
  obtain ⟨p, hp⟩ : ∃ p, os.length = p := ⟨_, rfl⟩
  obtain ⟨n, hn1⟩ : ∃ n, sc.length = n := ⟨_, rfl⟩
  obtain ⟨m, hm1⟩ : ∃ m, l.length = m := ⟨_, rfl⟩
  have HP := Lib.hid hp
  have HM := Lib.hid hm1
  have hm10 := hf.1
  rw [hm1] at hm10
  rw [hp] at hno HOS ⊢
  rw [hn1, hm1] at HBI ⊢
  clear hl hs hos hoc hr hR hsc hf hp hn1 hm1 hn
  go_enter Try.func26, Try.ntmps26
  go_wp2_with fail
  go_loopw [9, 10] (fun v i wr => ∃ (k : Nat) (a6 : Option Addr) (n6 c6 : Nat) (xs : List Lnk), v = .slice a6 n6 c6 ∧ i = .int .i64 k ∧ k ≤ p ∧ n6 ≤ 60 * k ∧ Hid (linkF l sc (os.drop k) xs = R) ∧ Hid (wr.ownsRow (w.heap.size + 1) 51 4 (.slice a6 n6 c6) n6 (lnksC xs)) ∧ Hid (Below w.heap.size w wr) ∧ Hid (BoxN wr w.heap.size #[.int .i64 0, .int .i64 0, .int .i64 0, .int .i64 0])) (fun _ i _ => p - (intOf i).toNat)
  case atStart => exact ⟨0, none, 0, 0, [], rfl, rfl, by omega, by omega, HR0, Lib.hid (World.ownsRow_nil _ _ _ _), Lib.hid (bAlloc (Below.refl _ _) _), Lib.hid (BoxN.new _ _ _)⟩
  case round =>
    obtain ⟨i, a6, n6, c6, xs, rfl, rfl, hi, hn6, HK, HO, HB, HX⟩ := hrel
    by_cases hlt : i < p
    · have hil : i < os.length := by rw [HP.out]; exact hlt
      obtain ⟨gg, off, hge, -, hc⟩ := (HOS.out.below HB.out).at_ hlt
      subst hge
      rw [ordV_get os i hil] at hc
      have hc0 := HOS.out.at_ hlt
      obtain ⟨gg', off', hge', hgl', hc0⟩ := hc0
      cases hge'
      rw [ordV_get os i hil] at hc0
      have hmem := HOC.out _ (List.getElem_mem hil)
      have hk2 := HK.out
      rw [linkF_at l sc os i xs hil] at hk2
      obtain ⟨o, ho⟩ : ∃ o, os[i] = o := ⟨_, rfl⟩
      rw [ho] at hc hc0 hmem hk2
      obtain ⟨gl, fl, hgl, -, hob⟩ := HL.out.at_ hmem
      subst hgl
      have hrs := relsAt_eq hmem
      obtain ⟨hq60, hry⟩ := HRE.out _ (List.getElem_mem hmem)
      rw [← symsAt_eq hmem] at hry
      obtain ⟨sa, s2, ra, rc, x1, x2, x3, x4, x5⟩ := hob
      replace x2 := (HB.out.cell (heap_lt_of_cell x2)).trans x2
      obtain ⟨q, hq⟩ : ∃ q, l[o].rels.length = q := ⟨_, rfl⟩
      rw [hq] at x2 hq60
      obtain ⟨rs, hrs2⟩ : ∃ rs, l[o].rels = rs := ⟨_, rfl⟩
      rw [hrs2] at hrs hq hry x5
      rw [hrs] at hk2
      have HK2 := Lib.hid hk2
      have HX5 := Lib.hid x5
      have HRY := Lib.hid (fun r hr => And.intro (show o < m by rw [← HM.out]; exact hmem) (hry r hr))
      have HQ := Lib.hid hq
      have hom : o < m := by rw [← HM.out]; exact hmem
      have HOL := Lib.hid hmem
      have kk0 : (0 : Int) ≤ (i : Int) := by omega
      have kk1 : (i : Int) < (p : Int) := by omega
      have oo0 : (0 : Int) ≤ (o : Int) := by omega
      have oo1 : (o : Int) < (m : Int) := by omega
      have od0 : decide ((o : Int) < 0) = false := decide_eq_false (by omega)
      have od1 : decide ((m : Int) ≤ (o : Int)) = false := decide_eq_false (by omega)
      have od2 : ¬ (o : Int) < 0 := by omega
      have od3 : ¬ (m : Int) ≤ (o : Int) := by omega
      clear hk2 x1 x3 x4 x5 hq hrs hrs2 hry ho hil HK
      go_wp2_with fail
      have HC0 := Lib.hid hc0
      clear x2 hc hc0
      go_loopw [9, 12] (fun v j w2 => ∃ (k : Nat) (a7 : Option Addr) (n7 c7 : Nat) (ys : List Lnk), v = .slice a7 n7 c7 ∧ j = .int .i64 k ∧ k ≤ q ∧ n7 ≤ 60 * i + k ∧ Hid (contF l sc (os.drop (i + 1)) (relF l sc o k (rs.drop k) ys) = R) ∧ Hid (w2.ownsRow (w.heap.size + 1) 51 4 (.slice a7 n7 c7) n7 (lnksC ys)) ∧ Hid (Below w.heap.size w w2) ∧ Hid (BoxN w2 w.heap.size #[.int .i64 0, .int .i64 0, .int .i64 0, .int .i64 0])) (fun _ j _ => q - (intOf j).toNat)
      case atStart => exact ⟨0, a6, n6, c6, xs, rfl, rfl, by omega, by omega, HK2, HO, HB, HX⟩
      case round =>
        clear HO HB HX HK2
        obtain ⟨k, a7, n7, c7, ys, rfl, rfl, hk, hn7, HJ, HO, HB, HX⟩ := hrel
        by_cases hkq : k < q
        · have hkl : k < rs.length := by rw [HQ.out]; exact hkq
          obtain ⟨gr, fr, hgr, -, z0, z1⟩ := (HX5.out.below HB.out).at_ hkl
          subst hgr
          obtain ⟨hol, hy0, hy1⟩ := HRY.out _ (List.getElem_mem hkl)
          obtain ⟨t, s, e, hbe⟩ : ∃ t s e, bnd l sc o rs[k].2 = (t, s, e) := ⟨_, _, _, rfl⟩
          have hok := relF_ok l sc o k rs ys hkl t s
          have hbad := relF_bad l sc o k rs ys hkl t s e
          have hcall := fun W hW => HBI.out W hW o rs[k].2 hol hy0 hy1
          obtain ⟨rr, hrr⟩ : ∃ rr, rs[k] = rr := ⟨_, rfl⟩
          obtain ⟨ra1, ry⟩ := rr
          rw [hrr] at z0 z1
          rw [hrr] at hcall hok hbad hbe
          simp only [] at z0 z1 hcall hok hbad hbe
          rw [hbe] at hcall
          simp only [] at hcall
          have HC := Lib.hid hcall
          have HOK := Lib.hid hok
          have HBAD := Lib.hid hbad
          have HBE := Lib.hid hbe
          have jj0 : (0 : Int) ≤ (k : Int) := by omega
          have jj1 : (k : Int) < (q : Int) := by omega
          have hsz := HB.out.size
          clear hol hy0 hy1 hbe hok hbad hcall hrr hkl
          have hc1 := (HB.out.cell (p := ⟨gg, off + i, none⟩) hgl').trans HC0.out
          have HZ := Lib.hid (And.intro hc1 z1)
          go_wp2_with fail
          go_region_held3 (fun W => W.cell? ⟨gg, off + i, none⟩ = some (.int .i64 (o : Int)) ∧ W.cell? ⟨gr, fr + k * 2 + 1, none⟩ = some (.int .i64 ry))
            (first | exact HZ.out | exact HZ3.out | go_keep)
            (first
              | (go_at_call 20; (with_reducible refine (HC.out _ (Below.drew HB.out)).mono ?_); rintro ee w3 ⟨rfl, hb3⟩; have HW3 := Lib.hid (bTrans (Below.drew (Below.refl wr.heap.size wr)) hb3); have HZ3 := Lib.hid (And.intro ((HW3.out.cell (heap_lt_of_cell HZ.out.1)).trans HZ.out.1) ((HW3.out.cell (heap_lt_of_cell HZ.out.2)).trans HZ.out.2)); clear hb3))
          have HB3 := Lib.hid (bTrans HB.out HW3.out)
          have HO3 := Lib.hid (own_below HO.out HW3.out)
          have HX3 := Lib.hid (HX.out.below HW3.out HX.out.lt)
          obtain ⟨hc3, -⟩ := HZ3.out
          clear HO HB HX z0 z1 hc1 HZ HZ3 HW3
          have hsz := HB3.out.size
          cases he : (e == 0) with
          | true =>
            obtain rfl : e = 0 := by simpa using he
            have HJ2 := Lib.hid (show contF l sc (os.drop (i + 1)) (relF l sc o (k + 1) (rs.drop (k + 1)) (ys ++ [⟨o, k, t, s⟩])) = R by rw [← HOK.out HBE.out]; exact HJ.out)
            go_wp2_with (at_builtin; refine wpList_appL _ rfl _ _ rfl (w.heap.size + 1) (.slice a7 n7 c7) n7 ys rfl (HO3.out.alloc _) _ 1 1 [⟨o, k, t, s⟩] rfl (rdk_one _ ⟨o, k, t, s⟩ 51) rfl (by omega) (by have := HX3.out.lt; simp; omega) ?_; intro a8 c8 w8 hown8 hgrow8 hat8; have HO8 := Lib.hid hown8; have HG8 := Lib.hid hgrow8; clear hown8 hgrow8 hat8)
            go_roundw
            case rel =>
              refine ⟨k + 1, a8, n7 + 1, c8, ys ++ [⟨o, k, t, s⟩], rfl, by go_num, by omega, by omega, HJ2, HO8, Lib.hid ?_, Lib.hid ?_⟩
              · exact (bAlloc HB3.out _).grown HG8.out (by simp; omega) (fun r hr => by have := (HO3.out.lt r hr).1; omega)
              · exact (HX3.out.below (bAlloc (Below.refl w3.heap.size w3) _) HX3.out.lt).grown HG8.out (fun hr => by have := (HO3.out.lt _ hr).1; omega)
            case measure => simp [intOf]; omega
          | false =>
            have he2 : e ≠ 0 := by simpa using he
            have HJ2 := Lib.hid (show ([], some (⟨(o : Int), (k : Int), 0, 0⟩, e)) = R by rw [← HJ.out, HBAD.out HBE.out he2]; rfl)
            have y0 : w3.cell? ⟨w.heap.size, 0, none⟩ = some (.int .i64 0) := HX3.out.cell 0
            have y1 : w3.cell? ⟨w.heap.size, 1, none⟩ = some (.int .i64 0) := HX3.out.cell 1
            have y2 : w3.cell? ⟨w.heap.size, 2, none⟩ = some (.int .i64 0) := HX3.out.cell 2
            have y3 : w3.cell? ⟨w.heap.size, 3, none⟩ = some (.int .i64 0) := HX3.out.cell 3
            have f0 : w3.frozen? ⟨w.heap.size, 0, none⟩ = false := HX3.out.frozen 0
            have f1 : w3.frozen? ⟨w.heap.size, 1, none⟩ = false := HX3.out.frozen 1
            have f2 : w3.frozen? ⟨w.heap.size, 2, none⟩ = false := HX3.out.frozen 2
            have f3 : w3.frozen? ⟨w.heap.size, 3, none⟩ = false := HX3.out.frozen 3
            go_wp2_with fail
            go_region
            all_goals
              go_wp2_with fail
              obtain ⟨q0, q1, q2, q3⟩ := put4_cells ⟨(o : Int), (k : Int), 0, 0⟩ HX3.out
              simp only [put4] at q0 q1 q2 q3
              refine bodyPost_ret (v := .tuple #[.slice none 0 0, .agg #[.int .i64 (o : Int), .int .i64 (k : Int), .int .i64 0, .int .i64 0], .int .i64 e]) (by simp [results, Try.results26, go_sem, q0, q1, q2, q3]) rfl ?_
              have hR := HJ2.out
              subst hR
              exact ⟨none, 0, rfl, RdK.nil _ _, Below.drew (put4_below ⟨(o : Int), (k : Int), 0, 0⟩ HB3.out)⟩
        · have hkq2 : k = q := by omega
          subst hkq2
          have HJ2 := Lib.hid (show linkF l sc (os.drop (i + 1)) ys = R by rw [← HJ.out, relF_end l sc o k rs ys (by rw [HQ.out]; omega)]; rfl)
          go_wp2_with fail
          go_roundw
          case rel => exact ⟨i + 1, a7, n7, c7, ys, rfl, by go_num, by omega, by omega, HJ2, HO, HB, HX⟩
          case measure => simp [intOf]; omega
    · have hkn : i = p := by omega
      subst hkn
      have HJ2 := Lib.hid (show (xs, none) = R by rw [← HK.out, linkF_end l sc os i xs (by rw [HP.out]; omega)])
      have y0 : wr.cell? ⟨w.heap.size, 0, none⟩ = some (.int .i64 0) := HX.out.cell 0
      have y1 : wr.cell? ⟨w.heap.size, 1, none⟩ = some (.int .i64 0) := HX.out.cell 1
      have y2 : wr.cell? ⟨w.heap.size, 2, none⟩ = some (.int .i64 0) := HX.out.cell 2
      have y3 : wr.cell? ⟨w.heap.size, 3, none⟩ = some (.int .i64 0) := HX.out.cell 3
      have f0 : wr.frozen? ⟨w.heap.size, 0, none⟩ = false := HX.out.frozen 0
      have f1 : wr.frozen? ⟨w.heap.size, 1, none⟩ = false := HX.out.frozen 1
      have f2 : wr.frozen? ⟨w.heap.size, 2, none⟩ = false := HX.out.frozen 2
      have f3 : wr.frozen? ⟨w.heap.size, 3, none⟩ = false := HX.out.frozen 3
      go_wp2_with fail
      obtain ⟨q0, q1, q2, q3⟩ := put4_cells ⟨0, 0, 0, 0⟩ HX.out
      simp only [put4] at q0 q1 q2 q3
      refine bodyPost_ret (v := .tuple #[.slice a6 n6 c6, .agg #[.int .i64 0, .int .i64 0, .int .i64 0, .int .i64 0], .int .i64 0]) (by simp [results, Try.results26, go_sem, q0, q1, q2, q3]) rfl ?_
      have hR := HJ2.out
      subst hR
      exact ⟨a6, c6, by rw [(RdK.of_own HO.out).2]; rfl, (RdK.of_own (put4_own ⟨0, 0, 0, 0⟩ HO.out)).1, put4_below ⟨0, 0, 0, 0⟩ HB.out⟩
end Go.Proofs.Ythammjpadbbflaa
