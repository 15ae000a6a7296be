/- The document's Close: contract. -/
import Derived.Test.YtfneikphgmjfbaaDlW
namespace Go.Proofs.Ytfneikphgmjfbaa
set_option linter.unusedVariables false
set_option linter.unusedSimpArgs false
open Go.Joins Go.ChangeShapes Go.WideShapes Go.ChangeAt Go.RowKit Go.Deep

set_option maxRecDepth 100000 in
set_option maxHeartbeats 8000000 in
theorem rclose_any (a : Option Addr) (l : List Obj) (c : Nat) (a1 a2 : Option Addr) (c1 c2 : Nat) (s : St) (name : List UInt8) (w : World) (hl : RdO w a l) (hm : l.length ≤ 100) (hnm : Named l) (hs : RdSt w a1 a2 s) (h1 : s.ld.length ≤ 1000) (h2 : s.op.length ≤ 1000) (hop : ∀ k ∈ s.op, k < l.length) :
    Calls Try.prog 16 #[.slice a l.length c, .agg #[.slice a1 s.ld.length c1, .slice a2 s.op.length c2], .string ⟨name.toArray⟩] w (StepPost w (Clo l s name)) := by
  have HL := Lib.hid hl
  have HFI := Lib.hid (fun W (hW : RdO W a l) => rfind_any a l c name W hW (by omega))
  have HND := Lib.hid (fun b op d k0 W (hW : RdO W a l) (ho : Rd W b op.length (i64s (ordZ op))) (hq : ∀ k ∈ op, k < l.length) (hon : op.length ≤ 100000) => rneeded_any a l c b op d k0 W hW hm hnm ho hq hon)
  have HRD := Lib.hid hs
  have HOP := Lib.hid hop
  clear hl hnm hs hop
  obtain ⟨x, hx⟩ : ∃ x, findO l name = x := ⟨_, rfl⟩
  rw [hx] at HFI
  have HX := Lib.hid hx
  obtain ⟨n1, hn1⟩ : ∃ n, s.ld.length = n := ⟨_, rfl⟩
  obtain ⟨n2, hn2⟩ : ∃ n, s.op.length = n := ⟨_, rfl⟩
  obtain ⟨m, hlm⟩ : ∃ m, l.length = m := ⟨_, rfl⟩
  unfold RdSt at HRD
  rw [hn1, hn2] at HRD
  rw [hlm] at HFI HND hm
  rw [hn1] at h1
  rw [hn2] at h2
  rw [hn1, hn2, hlm]
  have HN1 := Lib.hid hn1
  have HN2 := Lib.hid hn2
  have HLM := Lib.hid hlm
  clear hn1 hn2 hlm hx
  go_enter Try.func16, Try.ntmps16
  go_wp2_with fail
  have B0 := Lib.hid (bAlloc (bAlloc (Below.refl w.heap.size w) (.cells #[.slice a1 n1 c1, .slice a2 n2 c2] 32)) (.cells #[.slice none 0 0, .slice none 0 0] 32))
  refine (HFI.out _ (HL.out.below B0.out)).mono ?_; rintro e w1 ⟨rfl, hw1⟩
  have BX0 := Lib.hid ((BoxS.new w (.slice a1 n1 c1) (.slice a2 n2 c2) 32).below (bAlloc (Below.refl _ _) (.cells #[.slice none 0 0, .slice none 0 0] 32)))
  have BX1 := Lib.hid (BoxS.new (w.alloc (.cells #[.slice a1 n1 c1, .slice a2 n2 c2] 32)) (.slice none 0 0) (.slice none 0 0) 32)
  rw [size_alloc] at BX1
  rw [hw1] at BX0 BX1 B0
  clear hw1 HFI
  have R1 := Lib.hid (HRD.out.1.below B0.out)
  have R2 := Lib.hid (HRD.out.2.below B0.out)
  obtain ⟨x1, x2, -, x3, -⟩ := BX0.out.cells
  go_wp2_with fail
  go_loop [10, 11] (fun v i => ∃ k t : Nat, v = .int .i64 t ∧ i = .int .i64 k ∧ 1 ≤ k ∧ (k ≤ n2 ∨ k = 1) ∧ Hid (lastN (ordZ s.op) x k = t)) (fun _ i => n2 - (intOf i).toNat)
  case atStart => exact ⟨1, 0, rfl, rfl, by omega, Or.inr rfl, Lib.hid (lastN_one _ _)⟩
  case round =>
    obtain ⟨k, t, rfl, rfl, hk1, hk2, HT⟩ := hrel
    by_cases hlt : k < n2
    · have hkl : k < s.op.length := by rw [HN2.out]; exact hlt
      obtain ⟨g, off, rfl, -, hc⟩ := R2.out.at_ hlt
      rw [ordZ_get s.op k hkl] at hc
      have hh := lastN_hit s.op x k hkl
      have hmi := lastN_miss s.op x k hkl
      generalize s.op[k] = y at hc hh hmi
      have kk0 : (0 : Int) ≤ (k : Int) := by omega
      have kk1 : (k : Int) < (n2 : Int) := by omega
      cases hyx : (y : Int) == x with
      | true =>
        have HH := Lib.hid (hh hyx)
        clear hh hmi
        go_wp2_with fail
        go_round
        case rel => exact ⟨k + 1, k, rfl, by go_num, by omega, by omega, HH⟩
        case measure => simp [intOf]; omega
      | false =>
        have HH := Lib.hid ((hmi hyx).trans HT.out)
        clear hh hmi
        go_wp2_with fail
        go_round
        case rel => exact ⟨k + 1, t, rfl, by go_num, by omega, by omega, HH⟩
        case measure => simp [intOf]; omega
    · have hla := (lastN_end s.op x k (by rw [HN2.out]; exact hlt) (by rw [HN2.out]; exact hk2)).symm.trans HT.out
      have HLA := Lib.hid (show lastP s.op (findO l name) = t by rw [HX.out]; exact hla)
      have hneg : x < 0 → t = 0 := fun h => by rw [← HT.out]; exact lastN_neg s.op h k
      clear hla
      by_cases ht : t = 0
      · subst ht
        have HR := Lib.hid (show Clo l s name s [] 210 from Or.inl ⟨HLA.out, rfl, rfl, rfl⟩)
        obtain ⟨v1, v2, v3, v5, -⟩ := BX1.out.cells
        have v6 := v3 0
        have v7 := v3 1
        clear v3 hneg
        have kc := set2 (.slice a1 n1 c1) (.slice a2 n2 c2) v1 v2
        have HPP := Lib.hid (step_of (w := w) (R := Clo l s name) (a3 := none) (c1 := c1) (c2 := c2) (c3 := 0) s [] HR.out HN1.out HN2.out rfl (rd_box2 (a3 := a1) (n3 := n1) (c3 := c1) (y := .slice a2 n2 c2) BX1.out R1.out) (rd_box2 (a3 := a1) (n3 := n1) (c3 := c1) (y := .slice a2 n2 c2) BX1.out R2.out) (Rd.nil _ _) ((B0.out.setCell (p := ⟨w.heap.size + 1, 0, none⟩) (by simp) _).setCell (p := ⟨w.heap.size + 1, 1, none⟩) (by simp) _))
        have KC := Lib.hid kc
        clear kc
        by_cases hx0 : x < 0
        · have hx1 : decide (x < 0) = true := decide_eq_true hx0
          go_wp2_with fail
          have kc := KC.out
          refine bodyPost_ret (v := .tuple #[.agg #[.slice a1 n1 c1, .slice a2 n2 c2], .slice none 0 0, .int .i64 210]) ?_ rfl HPP.out
          simp [results, Try.results16, go_sem, kc.1, kc.2]
        · have hx1 : decide (x < 0) = false := decide_eq_false hx0
          go_wp2_with fail
          have kc := KC.out
          refine bodyPost_ret (v := .tuple #[.agg #[.slice a1 n1 c1, .slice a2 n2 c2], .slice none 0 0, .int .i64 210]) ?_ rfl HPP.out
          simp [results, Try.results16, go_sem, kc.1, kc.2]
      · have hx0 : ¬ x < 0 := fun h => ht (hneg h)
        have hx1 : decide (x < 0) = false := decide_eq_false hx0
        have ht0 : ((t : Int) == 0) = false := by
          rw [beq_eq_false_iff_ne]; omega
        clear hneg hx0
        go_wp2_with fail
        go_loopw [13] (fun i wr => ∃ (k : Nat) (b2 : Option Addr) (m2 d2 : Nat), i = .int .i64 k ∧ k ≤ n2 ∧ m2 ≤ k ∧ Hid ((but s.op t k).length = m2) ∧ Hid (NewAt w1 wr (.slice none 0 0) (.slice b2 m2 d2) 0 m2 [] (ordZ (but s.op t k)))) (fun i _ => n2 - (intOf i).toNat)
        case atStart => exact ⟨0, none, 0, 0, rfl, by omega, by omega, Lib.hid rfl, Lib.hid (NewAt.start w1 _)⟩
        case round =>
          obtain ⟨k, b2, m2, d2, rfl, hk, hmk, HM2, NA⟩ := hrel
          obtain ⟨x1, x2, -, x3, -⟩ := (BX0.out.below NA.out.bel).cells
          by_cases hlt : k < n2
          · have hkl : k < s.op.length := by rw [HN2.out]; exact hlt
            obtain ⟨g, off, rfl, -, hc⟩ := (R2.out.below NA.out.bel).at_ hlt
            rw [ordZ_get s.op k hkl] at hc
            have hbs := but_snoc s.op t k hkl
            generalize s.op[k] = y at hc hbs
            have kk0 : (0 : Int) ≤ (k : Int) := by omega
            have kk1 : (k : Int) < (n2 : Int) := by omega
            by_cases hkt : k = t
            · have hb2 : but s.op t (k + 1) = but s.op t k := by rw [hkt]; exact but_same s.op t (by rw [← hkt]; exact hkl)
              have HB2 := Lib.hid hb2
              have hne : ((k : Int) != (t : Int)) = false := by rw [hkt]; simp
              clear hb2 hbs hkt
              go_wp2_with fail
              go_roundw
              case rel => exact ⟨k + 1, b2, m2, d2, by go_num, by omega, by omega, Lib.hid (by rw [HB2.out]; exact HM2.out), Lib.hid (by rw [HB2.out]; exact NA.out)⟩
              case measure => simp [intOf]; omega
            · have HB2 := Lib.hid (hbs hkt)
              have hne : ((k : Int) != (t : Int)) = true := by simp; omega
              clear hbs hkt
              obtain ⟨y1, y2, y3, y5, -⟩ := NA.out.bx.cells
              have y6 := y3 1
              have hgl := heap_lt_of_cell hc
              clear y3 y1
              go_wp2_with fail
              go_region_law (refine step_app _ rfl _ _ rfl (w1.heap.size + 1) (.slice b2 m2 d2) m2 (ordZ (but s.op t k)) rfl (own_below NA.out.own.2.1 (by first | ((repeat (first | exact Below.refl _ _ | with_reducible refine Below.drew ?_ | with_reducible refine bAlloc ?_ _)); done) | fail)) (some ⟨_, 0, none⟩) 1 1 [(y : Int)] rfl (rd_one' (by first | ((repeat (first | exact Below.refl _ _ | with_reducible refine Below.drew ?_ | with_reducible refine bAlloc ?_ _)); done) | fail) (by first | rfl | (simp only [size_alloc, size_drew']; done) | fail)) (by omega) (by have := NA.out.lt; simp; omega) ?_; intro a7 c7 w7 hown7 hgrow7 hat7; have z0 := NewAt.keep2 NA.out (by first | ((repeat (first | exact Below.refl _ _ | with_reducible refine Below.drew ?_ | with_reducible refine bAlloc ?_ _)); done) | fail) hgrow7; have z1 := z0.1; have z2 := z0.2; have NA7 := Lib.hid (NewAt.app2 (NewAt.below NA.out (by first | ((repeat (first | exact Below.refl _ _ | with_reducible refine Below.drew ?_ | with_reducible refine bAlloc ?_ _)); done) | fail)) hgrow7 hown7 hat7); clear hown7 hgrow7 hat7 z0)
              all_goals
                clear z1 z2 y2 y6 hc x1 x2
                generalize w7.setCell ⟨w1.heap.size, 1, none⟩ (.slice a7 (m2 + 1) c7) = W7 at *
                go_wp2_with fail
                go_roundw
                case rel => exact ⟨k + 1, a7, m2 + 1, c7, by go_num, by omega, by omega, Lib.hid (by rw [HB2.out, List.length_append, HM2.out]; rfl), Lib.hid (by rw [HB2.out, ordZ_append]; exact NA7.out)⟩
                case measure => simp [intOf]; omega
          · have hke : k = s.op.length := by rw [HN2.out]; omega
            have hbt := but_all s.op t
            rw [← hke] at hbt
            obtain ⟨op', hop'⟩ : ∃ q, s.op.eraseIdx t = q := ⟨_, rfl⟩
            rw [hop'] at hbt
            rw [hbt] at HM2 NA
            have HOQ := Lib.hid (fun q (hq : q ∈ op') => HOP.out q (List.mem_of_mem_eraseIdx (by rw [hop']; exact hq)))
            have HOE := Lib.hid hop'
            have HN := Lib.hid (fun k0 W (hW : RdO W a l) (ho : Rd W b2 op'.length (i64s (ordZ op'))) => HND.out b2 op' d2 k0 W hW ho (fun q hq => by rw [← HLM.out]; exact HOQ.out q hq) (by have := HM2.out; omega))
            rw [HM2.out] at HN
            clear hbt hop' hke HND HOP HOQ
            go_wp2_with fail
            go_loopw [14, 15] (fun v i wr => ∃ (k : Nat) (b1 : Option Addr) (q1 d1 : Nat) (e1 : Option Addr) (q3 d3 : Nat), v = .slice e1 q3 d3 ∧ i = .int .i64 k ∧ k ≤ n1 ∧ q1 ≤ k ∧ q3 ≤ k ∧ Hid ((stay l op' s.ld k).length = q1) ∧ Hid ((gone l op' s.ld k).length = q3) ∧ Hid (NewAt w1 wr (.slice b1 q1 d1) (.slice b2 m2 d2) q1 m2 (ordZ (stay l op' s.ld k)) (ordZ op')) ∧ Hid (EndR w1 wr (.slice b1 q1 d1) (.slice e1 q3 d3) q3 (ordZ (gone l op' s.ld k)))) (fun _ i _ => n1 - (intOf i).toNat)
            case atStart => exact ⟨0, none, 0, 0, none, 0, 0, rfl, rfl, by omega, by omega, by omega, Lib.hid rfl, Lib.hid rfl, NA, Lib.hid ⟨World.ownsRow_nil _ _ _ _, fun g h => by cases h⟩⟩
            case round =>
              obtain ⟨k, b1, q1, d1, e1, q3, d3, rfl, rfl, hk, hq1, hq3, HS, HG, NA, ER⟩ := hrel
              clear x1 x2 x3
              obtain ⟨x1, -, -, x3, -⟩ := (BX0.out.below NA.out.bel).cells
              obtain ⟨y1, y2, y3, y5, -⟩ := NA.out.bx.cells
              by_cases hlt : k < n1
              · have hkl : k < s.ld.length := by rw [HN1.out]; exact hlt
                obtain ⟨g, off, rfl, -, hc⟩ := (R1.out.below NA.out.bel).at_ hlt
                rw [ordZ_get s.ld k hkl] at hc
                have hsy := stay_yes l op' s.ld k hkl
                have hsn := stay_no l op' s.ld k hkl
                generalize s.ld[k] = y at hc hsy hsn
                have kk0 : (0 : Int) ≤ (k : Int) := by omega
                have kk1 : (k : Int) < (n1 : Int) := by omega
                have HC := Lib.hid (fun W (hW : Below wr.heap.size wr W) => HN.out y W (HL.out.below (bTrans (bTrans B0.out NA.out.bel) hW)) ((Rd.of_own NA.out.own.2.1).below hW))
                have hl1 := heap_lt_of_cell hc
                have X := Lib.hid (And.intro y2 (And.intro x1 hc))
                have HK := Lib.hid (fun (W' : World) (h : Below wr.heap.size wr W') => And.intro ((h.cell (p := ⟨w1.heap.size, 1, none⟩) y5).trans y2) (And.intro ((h.cell (p := ⟨w.heap.size, 0, none⟩) x3).trans x1) ((h.cell (p := ⟨g, off + k, none⟩) hl1).trans hc)))
                clear y1 y2 y3 y5 x3 hc hl1
                have HWN := Lib.hid (Below.refl wr.heap.size wr)
                go_wp2_with fail
                clear x1
                go_region_held3 (fun W => W.cell? ⟨w1.heap.size, 1, none⟩ = some (.slice b2 m2 d2) ∧ W.cell? ⟨w.heap.size, 0, none⟩ = some (.slice (some ⟨g, off, none⟩) n1 c1) ∧ W.cell? ⟨g, off + k, none⟩ = some (.int .i64 (y : Int)))
                  (first | exact X.out | exact HK.out _ (by first | ((repeat (first | exact HWN.out | with_reducible refine Below.drew ?_ | with_reducible refine bAlloc ?_ _)); done) | fail) | go_keep)
                  (first
                    | (go_at_call 24; (with_reducible refine (HC.out _ (by first | ((repeat (first | exact HWN.out | with_reducible refine Below.drew ?_ | with_reducible refine bAlloc ?_ _)); done) | fail)).mono ?_); rintro e w7 ⟨rfl, hb7⟩; have HWN := Lib.hid (bTrans (w := wr) (by first | ((repeat (first | exact HWN.out | with_reducible refine Below.drew ?_ | with_reducible refine bAlloc ?_ _)); done) | fail) hb7); clear hb7))
                all_goals
                  have NA := Lib.hid (NA.out.below HWN.out)
                  have ER := Lib.hid (ER.out.below HWN.out)
                  obtain ⟨-, x1, hc⟩ := HK.out _ HWN.out
                  clear HK X HC HWN
                  obtain ⟨y1, y2, y3, y5, -⟩ := NA.out.bx.cells
                  have y6 := y3 0
                  have hgl := heap_lt_of_cell hc
                  have hxl := heap_lt_of_cell x1
                  clear y3 y2
                  cases hnp : needP l op' y with
                  | true =>
                    have HSY := Lib.hid (hsy hnp)
                    clear hsy hsn hnp
                    go_wp2_with fail
                    go_region_law (refine step_app _ rfl _ _ rfl (w1.heap.size + 1) (.slice b1 q1 d1) q1 (ordZ (stay l op' s.ld k)) rfl (own_below NA.out.own.1 (by first | ((repeat (first | exact Below.refl _ _ | with_reducible refine Below.drew ?_ | with_reducible refine bAlloc ?_ _)); done) | fail)) (some ⟨_, 0, none⟩) 1 1 [(y : Int)] rfl (rd_one' (by first | ((repeat (first | exact Below.refl _ _ | with_reducible refine Below.drew ?_ | with_reducible refine bAlloc ?_ _)); done) | fail) (by first | rfl | (simp only [size_alloc, size_drew']; done) | fail)) (by omega) (by have := NA.out.lt; simp; omega) ?_; intro a8 c8 w8 hown8 hgrow8 hat8; have z0 := NewAt.keep1 NA.out (by first | ((repeat (first | exact Below.refl _ _ | with_reducible refine Below.drew ?_ | with_reducible refine bAlloc ?_ _)); done) | fail) hgrow8; have z1 := z0.1; have z2 := z0.2; have NA8 := Lib.hid (NewAt.app1 (NewAt.below NA.out (by first | ((repeat (first | exact Below.refl _ _ | with_reducible refine Below.drew ?_ | with_reducible refine bAlloc ?_ _)); done) | fail)) hgrow8 hown8 hat8); have ER8 := Lib.hid (EndR.app1 (EndR.below ER.out (by first | ((repeat (first | exact Below.refl _ _ | with_reducible refine Below.drew ?_ | with_reducible refine bAlloc ?_ _)); done) | fail)) hgrow8 hat8 (.slice a8 (q1 + 1) c8)); clear hown8 hgrow8 hat8 z0)
                    all_goals
                      clear z1 z2 y1 y6 hc x1
                      generalize w8.setCell ⟨w1.heap.size, 0, none⟩ (.slice a8 (q1 + 1) c8) = W8 at *
                      go_wp2_with fail
                      go_roundw
                      case rel => exact ⟨k + 1, a8, q1 + 1, c8, e1, q3, d3, rfl, by go_num, by omega, by omega, by omega, Lib.hid (by rw [HSY.out.1, List.length_append, HS.out]; rfl), Lib.hid (by rw [HSY.out.2]; exact HG.out), Lib.hid (by rw [HSY.out.1, ordZ_append]; exact NA8.out), Lib.hid (by rw [HSY.out.2]; exact ER8.out)⟩
                      case measure => simp [intOf]; omega
                  | false =>
                    have HSN := Lib.hid (hsn hnp)
                    clear hsy hsn hnp
                    go_wp2_with (at_builtin; refine wpList_app _ rfl _ _ rfl w7.heap.size (.slice (some ⟨w7.heap.size, 0, none⟩) 1 1) 1 [(y : Int)] rfl (own_one w7 (y : Int)) e1 q3 d3 (ordZ (gone l op' s.ld k)) rfl ((Rd.of_own ER.out.1).below (bAlloc (Below.refl _ _) _)) (by omega) (by simp) ?_; intro a8 c8 w8 hown8 hgrow8 hat8; have HB8 := Lib.hid (grownB (bAlloc (Below.refl w7.heap.size w7) _) hgrow8 (fun q hq => by cases hq; exact Nat.le_refl _)); have ER8 := Lib.hid (EndR.new NA.out hown8); have NA8 := Lib.hid (NA.out.below HB8.out); clear hown8 hgrow8 hat8)
                    go_roundw
                    case rel => exact ⟨k + 1, b1, q1, d1, a8, 1 + q3, c8, rfl, by go_num, by omega, by omega, by omega, Lib.hid (by rw [HSN.out.1]; exact HS.out), Lib.hid (by rw [HSN.out.2, List.length_cons, HG.out]; omega), Lib.hid (by rw [HSN.out.1]; exact NA8.out), Lib.hid (by rw [HSN.out.2]; exact ER8.out)⟩
                    case measure => simp [intOf]; omega
              · have hke : k = s.ld.length := by rw [HN1.out]; omega
                have hst := stay_all l op' s.ld
                rw [← hke] at hst
                have V1 := Lib.hid (BX1.out.below NA.out.bel)
                obtain ⟨v1, v2, v3, v5, -⟩ := V1.out.cells
                have v6 := v3 0
                have v7 := v3 1
                have HR := Lib.hid (show Clo l s name ⟨stay l op' s.ld k, op'⟩ (gone l op' s.ld k) 0 from Or.inr ⟨by rw [HLA.out]; omega, by rw [HLA.out, HOE.out, hst.1], by rw [HLA.out, HOE.out, hst.2], rfl⟩)
                have kc := set2 (.slice b1 q1 d1) (.slice b2 m2 d2) v1 v2
                have HPP := Lib.hid (step_of (w := w) (R := Clo l s name) (c1 := d1) (c2 := d2) (c3 := d3) ⟨stay l op' s.ld k, op'⟩ (gone l op' s.ld k) HR.out HS.out HM2.out HG.out (rd_box2 (a3 := b1) (n3 := q1) (c3 := d1) (y := .slice b2 m2 d2) V1.out (Rd.of_own NA.out.own.1)) (rd_box2 (a3 := b1) (n3 := q1) (c3 := d1) (y := .slice b2 m2 d2) V1.out (Rd.of_own NA.out.own.2.1)) (rd_box2 (a3 := b1) (n3 := q1) (c3 := d1) (y := .slice b2 m2 d2) V1.out (Rd.of_own ER.out.1)) (((bTrans B0.out NA.out.bel).setCell (p := ⟨w.heap.size + 1, 0, none⟩) (by simp) _).setCell (p := ⟨w.heap.size + 1, 1, none⟩) (by simp) _))
                have KC := Lib.hid kc
                clear kc v3 hst hke y3
                go_wp2_with fail
                have kc := KC.out
                refine bodyPost_ret (v := .tuple #[.agg #[.slice b1 q1 d1, .slice b2 m2 d2], .slice e1 q3 d3, .int .i64 0]) ?_ rfl HPP.out
                simp [results, Try.results16, go_sem, kc.1, kc.2]
end Go.Proofs.Ytfneikphgmjfbaa
