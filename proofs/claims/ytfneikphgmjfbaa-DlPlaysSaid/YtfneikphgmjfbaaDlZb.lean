/- DlPlays: its walk. -/
import Derived.Test.YtfneikphgmjfbaaDlZa
namespace Go.Proofs.Ytfneikphgmjfbaa
set_option linter.unusedVariables false
set_option linter.unusedSimpArgs false
open Go.Joins Go.ChangeShapes Go.WideShapes Go.ChangeAt Go.RowKit Go.Deep

set_option maxRecDepth 100000 in
set_option maxHeartbeats 8000000 in
theorem plays_yes (a : Option Addr) (l : List Obj) (c : Nat) (root : List UInt8) (b : Option Addr) (ops : List (Bool × List UInt8)) (d : Nat) (w : World) (hl : RdO w a l) (hs : shortB l 12 = true) (hnm : Named l) (hm : l.length ≤ 12) (hroot : root.length ≤ maxLen) (hp : RdP w b ops) (hpn : ops.length ≤ 40) (hpm : ∀ o ∈ ops, o.2.length ≤ maxLen) :
    Calls Try.prog 3 #[.slice a l.length c, .string ⟨root.toArray⟩, .slice b ops.length d] w fun e w' => e = .returned (.bool true) ∧ Below w.heap.size w w' := by
  have HL := Lib.hid hl
  have HSH := Lib.hid (fun W (hW : RdO W a l) => short_any a l c 12 W hW (by unfold maxLen; omega) (by omega) (fun o ho => by have := (hnm o ho).2.1; unfold maxLen; omega))
  have HBG := Lib.hid (fun W (hW : RdO W a l) => begun_any a l c root W hW (by omega) hnm hroot)
  have HRB := Lib.hid (fun W (hW : RdO W a l) => ropen_any a l c none none 0 0 ⟨[], []⟩ root W hW (by omega) hnm ⟨Rd.nil _ _, Rd.nil _ _⟩ (by simp) (by simp))
  have HOP := Lib.hid (fun a1 a2 c1 c2 (s : St) name W (hW : RdO W a l) (hs : RdSt W a1 a2 s) (hn1 : s.ld.length ≤ 1000) (hn2 : s.op.length ≤ 100) (hname : name.length ≤ maxLen) => open_any a l c a1 a2 c1 c2 s name W hW (by omega) hnm hs hn1 (by omega) hname)
  have HCL := Lib.hid (fun a1 a2 c1 c2 (s : St) name W (hW : RdO W a l) (hs : RdSt W a1 a2 s) (hn1 : s.ld.length ≤ 1000) (hn2 : s.op.length ≤ 100) (hop : ∀ k ∈ s.op, k < l.length) => close_any a l c a1 a2 c1 c2 s name W hW (by omega) hnm hs hn1 hn2 hop)
  have HRO := Lib.hid (fun a1 a2 c1 c2 (s : St) name W (hW : RdO W a l) (hs : RdSt W a1 a2 s) (hn1 : s.ld.length ≤ 1000) (hn2 : s.op.length ≤ 100) => ropen_any a l c a1 a2 c1 c2 s name W hW (by omega) hnm hs hn1 (by omega))
  have HRC := Lib.hid (fun a1 a2 c1 c2 (s : St) name W (hW : RdO W a l) (hs : RdSt W a1 a2 s) (hn1 : s.ld.length ≤ 1000) (hn2 : s.op.length ≤ 100) (hop : ∀ k ∈ s.op, k < l.length) => rclose_any a l c a1 a2 c1 c2 s name W hW (by omega) hnm hs hn1 (by omega) hop)
  have HSC := Lib.hid (fun a1 a2 n1 c1 c2 (op : List Nat) W (hW : RdO W a l) (ho : Rd W a2 op.length (i64s (ordZ op))) (hop : ∀ k ∈ op, k < l.length) (hon : op.length ≤ 100) => scope_any a l c a1 a2 n1 c1 c2 op W hW (by omega) hnm ho hop hon)
  have HRS := Lib.hid (fun a2 c2 (op : List Nat) W (hW : RdO W a l) (ho : Rd W a2 op.length (i64s (ordZ op))) (hop : ∀ k ∈ op, k < l.length) (hon : op.length ≤ 100) => rscope_any a l c a2 c2 op W hW (by omega) hnm ho hop hon)
  have HP := Lib.hid hp
  have HPM := Lib.hid hpm
  rw [hs] at HSH
  clear hl hs hp hpm hnm
  obtain ⟨m, hlm⟩ : ∃ m, l.length = m := ⟨_, rfl⟩
  obtain ⟨n, hn⟩ : ∃ n, ops.length = n := ⟨_, rfl⟩
  rw [hlm] at hm ⊢
  simp only [hlm] at HSH HBG HRB HOP HCL HRO HRC HSC HRS
  simp only [List.length_nil] at HRB
  rw [hn] at hpn ⊢
  have HLM := Lib.hid hlm
  have HN := Lib.hid hn
  have d40 : decide ((40 : Int) < (n : Int)) = false := decide_eq_false (by omega)
  clear hlm hn
  go_enter Try.func3, Try.ntmps3
  go_wp2_with fail
  refine (dawake_any _).mono ?_; rintro e w1 ⟨rfl, hb1⟩
  have B1 := Lib.hid hb1
  clear hb1
  go_wp2_with fail
  refine (HSH.out _ (HL.out.below B1.out)).mono ?_; rintro e w2 ⟨rfl, rfl⟩
  go_wp2_with fail
  clear d40
  refine (HBG.out _ (HL.out.below B1.out)).mono ?_; rintro e w3 ⟨a1, c1, a2, c2, s, bb, x, rfl, hO, hrd, hb3⟩
  have B3 := Lib.hid (bTrans B1.out hb3)
  have HO := Lib.hid hO
  have HST := Lib.hid hO.start
  have hsz : s.ld.length ≤ 12 ∧ s.op.length ≤ 1 := by
    rcases hO.start with ⟨-, rfl⟩ | ⟨-, hg, h1⟩
    · exact ⟨by simp, by simp⟩
    · exact ⟨by have := hg.le; have := HLM.out; omega, by omega⟩
  obtain ⟨n1, hn1⟩ : ∃ n, s.ld.length = n := ⟨_, rfl⟩
  obtain ⟨n2, hn2⟩ : ∃ n, s.op.length = n := ⟨_, rfl⟩
  have HRD := Lib.hid hrd
  rw [hn1, hn2] at hsz ⊢
  obtain ⟨hs1, hs2⟩ := hsz
  have HN1 := Lib.hid hn1
  have HN2 := Lib.hid hn2
  clear hO hrd hb3 hn1 hn2
  go_wp2_with fail
  refine (HRB.out _ (HL.out.below (bAlloc B3.out _))).mono ?_; rintro e w4 ⟨b1, d1, b2, d2, b3, d3, t, bt, y, rfl, hO2, hrd2, -, hb4⟩
  obtain ⟨rfl, rfl, rfl⟩ := HO.out.det hO2
  rw [HN1.out, HN2.out]
  have BS := Lib.hid ((BoxS.new w3 (.slice a1 n1 c1) (.slice a2 n2 c2) 28).below hb4)
  obtain ⟨y1, y2, -, y4, -⟩ := BS.out.cells
  have HM0 := Lib.hid (show PlAt w (w4.alloc (.cells #[.slice b1 n1 d1, .slice b2 n2 d2] 32)) w3.heap.size w4.heap.size s s a1 n1 c1 a2 n2 c2 b1 n1 d1 b2 n2 d2 from ⟨BS.out.below (bAlloc (Below.refl _ _) _), BoxS.new _ _ _ _, ⟨y4, B3.out.size⟩, HN1.out, HN2.out, HN1.out, HN2.out, ((HRD.out.below (bAlloc (Below.refl _ _) _)).below hb4).below (bAlloc (Below.refl _ _) _), hrd2.below (bAlloc (Below.refl _ _) _), bAlloc (bTrans (bAlloc B3.out _) hb4) _⟩)
  have HSM := same_self a1 a2 b1 b2 c1 c2 d1 d2 s _ HM0.out.rs HM0.out.rt (by rw [HN1.out]; omega) (by rw [HN2.out]; omega)
  rw [HN1.out, HN2.out] at HSM
  have HSM := Lib.hid HSM
  have hxx : (x != x) = false := bne_self_eq_false x
  clear hO2 hrd2 hb4 HO BS HRD
  go_wp2_with fail
  refine HSM.out.mono ?_; rintro e w5 ⟨rfl, hb5⟩
  have HM1 := Lib.hid (HM0.out.below hb5)
  clear hb5 HSM y1 y2 y4 hxx
  rcases HST.out with ⟨rfl, -⟩ | ⟨rfl, hG, -⟩
  · have hd0 : ((130 : Int) != 0) = true := by decide
    go_wp2_with fail
    go_ret
    exact ⟨rfl, HM1.out.bel⟩
  · have HG0 := Lib.hid hG
    clear hG HST HM0
    have hd0 : ((0 : Int) != 0) = false := by decide
    go_wp2_with fail
    go_loopw [14] (fun i wr => ∃ (k : Nat) (a1 : Option Addr) (n1 c1 : Nat) (a2 : Option Addr) (n2 c2 : Nat) (b1 : Option Addr) (d1 : Nat) (b2 : Option Addr) (d2 : Nat) (s : St), i = .int .i64 k ∧ k ≤ n ∧ Hid (Good l root s) ∧ n2 ≤ k + 1 ∧ Hid (PlAt w wr w3.heap.size w4.heap.size s s a1 n1 c1 a2 n2 c2 b1 n1 d1 b2 n2 d2)) (fun i _ => n - (intOf i).toNat)
    case atStart => exact ⟨0, a1, n1, c1, a2, n2, c2, b1, d1, b2, d2, s, rfl, by omega, HG0, by omega, HM1⟩
    case round =>
      obtain ⟨k, a1, n1, c1, a2, n2, c2, b1, d1, b2, d2, s, rfl, hk, HG, hk2, HM⟩ := hrel
      clear HM1 HG0
      obtain ⟨y1, y2, y3, y4, -⟩ := HM.out.bs.cells
      have y5 := y3 0
      have y6 := y3 1
      clear y3
      have hgl := HG.out.le
      rw [HM.out.n1, HLM.out] at hgl
      by_cases hlt : k < n
      · have hkl : k < ops.length := by rw [HN.out]; exact hlt
        obtain ⟨g, off, rfl, hc1, hc2⟩ := (HP.out.below HM.out.bel).at_ hkl
        have hnml := HPM.out _ (List.getElem_mem hkl)
        obtain ⟨o, ho⟩ : ∃ o, ops[k] = o := ⟨_, rfl⟩
        rw [ho] at hc1 hc2 hnml
        obtain ⟨opn, nm⟩ := o
        have HOK := Lib.hid ho
        clear ho
        simp only [] at hc1 hc2 hnml
        have kk0 : (0 : Int) ≤ (k : Int) := by omega
        have kk1 : (k : Int) < (n : Int) := by omega
        have hgz := heap_lt_of_cell hc1
        have HO1 := fun W (hW : Below wr.heap.size wr W) => HOP.out a1 a2 c1 c2 s nm W ((HL.out.below HM.out.bel).below hW) (HM.out.rs.below hW) (by rw [HM.out.n1]; omega) (by rw [HM.out.n2]; omega) hnml
        have HC1 := fun W (hW : Below wr.heap.size wr W) => HCL.out a1 a2 c1 c2 s nm W ((HL.out.below HM.out.bel).below hW) (HM.out.rs.below hW) (by rw [HM.out.n1]; omega) (by rw [HM.out.n2]; omega) (fun q hq => by rw [← HLM.out]; exact HG.out.opl q hq)
        rw [HM.out.n1, HM.out.n2] at HO1 HC1
        have HO1 := Lib.hid HO1
        have HC1 := Lib.hid HC1
        cases opn with
        | true =>
          go_wp2_with fail
          go_region_with (go_at_call 14; (with_reducible refine (HO1.out _ (Below.drew (Below.refl wr.heap.size wr))).mono ?_); rintro e w' ⟨e1, f1, e2, f2, e3, f3, s', bb, x, rfl, hR, hrd', hr3, hb'⟩; have HBW := Lib.hid (bTrans (Below.drew (Below.refl wr.heap.size wr)) hb'); have HRR := Lib.hid hR; have HRD' := Lib.hid hrd'; have HR3 := Lib.hid hr3; obtain ⟨z1, z2, z3, z4, -⟩ := (HM.out.bs.below HBW.out).cells; have z5 := z3 0; have z6 := z3 1; clear hR hrd' hb' z3 hr3)
          all_goals
            have hbl := HRR.out.blen HG.out
            have HGS := Lib.hid (HG.out.opened HRR.out)
            have hln := HRR.out.len
            rw [HM.out.n2] at hln
            have hg2 := HGS.out.le
            have HM1 := Lib.hid ((HM.out.below HBW.out).putP s' e1 s'.ld.length f1 e2 s'.op.length f2 rfl rfl HRD'.out)
            have R3 := Lib.hid (rd_box2 (a3 := e1) (n3 := s'.ld.length) (c3 := f1) (y := .slice e2 s'.op.length f2) (HM.out.below HBW.out).bs HR3.out)
            obtain ⟨p1, hp1⟩ : ∃ n, s'.ld.length = n := ⟨_, rfl⟩
            obtain ⟨p2, hp2⟩ : ∃ n, s'.op.length = n := ⟨_, rfl⟩
            obtain ⟨p3, hp3⟩ : ∃ n, bb.length = n := ⟨_, rfl⟩
            rw [hp1, hp2] at HM1 R3 ⊢
            rw [hp3] at R3 hbl ⊢
            rw [hp1] at hg2
            rw [hp2] at hln
            rw [HLM.out] at hg2 hbl
            have HP1 := Lib.hid hp1
            have HP2 := Lib.hid hp2
            have HP3 := Lib.hid hp3
            generalize (w'.setCell ⟨w3.heap.size, 0, none⟩ (.slice e1 p1 f1)).setCell ⟨w3.heap.size, 1, none⟩ (.slice e2 p2 f2) = W2 at *
            clear hp1 hp2 hp3 z1 z2 z4 z5 z6 y1 y2 y4 y5 y6 HBW HRD' HR3 hc1 hc2 hgz HO1 HC1
            obtain ⟨g2, off2, hge, hc1, hc2⟩ := (HP.out.below HM1.out.bel).at_ hkl
            cases hge
            rw [HOK.out] at hc1 hc2
            simp only [] at hc1 hc2
            have hgz := heap_lt_of_cell hc1
            obtain ⟨y1, y2, y3, y4, -⟩ := HM1.out.bt.cells
            have y5 := y3 0
            have y6 := y3 1
            clear y3
            have HRO1 := fun W (hW : Below W2.heap.size W2 W) => HRO.out b1 b2 d1 d2 s nm W ((HL.out.below HM1.out.bel).below hW) (HM1.out.rt.below hW) (by rw [HM1.out.m1]; omega) (by rw [HM1.out.m2]; omega)
            rw [HM1.out.m1, HM1.out.m2] at HRO1
            have HRO1 := Lib.hid HRO1
            go_wp2_with fail
            go_region_with (go_at_call 12; (with_reducible refine (HRO1.out _ (Below.drew (Below.refl W2.heap.size W2))).mono ?_); rintro e w' ⟨h1, i1, h2, i2, h3, i3, t', cc, y, rfl, kR, krd', kr3, kb'⟩; have KBW := Lib.hid (bTrans (Below.drew (Below.refl W2.heap.size W2)) kb'); have KRR := Lib.hid kR; have KRD' := Lib.hid krd'; have KR3 := Lib.hid kr3; obtain ⟨z1, z2, z3, z4, -⟩ := (HM1.out.bt.below KBW.out).cells; have z5 := z3 0; have z6 := z3 1; clear kR krd' kb' z3 kr3)
            all_goals
              obtain ⟨rfl, rfl, rfl⟩ := HRR.out.det KRR.out
              rw [HP1.out, HP2.out, HP3.out]
              have KR3' := KR3.out
              rw [HP3.out] at KR3'
              have HM2 := Lib.hid ((HM1.out.below KBW.out).putQ s' h1 p1 i1 h2 p2 i2 HP1.out HP2.out KRD'.out)
              have R4 := Lib.hid (rd_box2 (a3 := h1) (n3 := p1) (c3 := i1) (y := .slice h2 p2 i2) (HM1.out.below KBW.out).bt (R3.out.below KBW.out))
              have R5 := Lib.hid (rd_box2 (a3 := h1) (n3 := p1) (c3 := i1) (y := .slice h2 p2 i2) (HM1.out.below KBW.out).bt KR3')
              generalize (w'.setCell ⟨w4.heap.size, 0, none⟩ (.slice h1 p1 i1)).setCell ⟨w4.heap.size, 1, none⟩ (.slice h2 p2 i2) = W3 at *
              clear KR3' KBW KRD' KR3 KRR HRR z1 z2 z4 z5 z6 y1 y2 y4 y5 y6 hc1 hc2 hgz HRO1
              have HSM := same_self e1 e2 h1 h2 f1 f2 i1 i2 s' W3 HM2.out.rs HM2.out.rt (by rw [HP1.out]; omega) (by rw [HP2.out]; omega)
              rw [HP1.out, HP2.out] at HSM
              have HSM := Lib.hid HSM
              have HNU := Lib.hid (fun W (hW : Below W3.heap.size W3 W) => numbers_self e3 h3 p3 f3 p3 i3 (ordZ bb) W (R4.out.below hW) (R5.out.below hW) (by omega) (by omega))
              obtain ⟨y1, y2, -, y4, -⟩ := HM2.out.bs.cells
              obtain ⟨z1, z2, -, z4, -⟩ := HM2.out.bt.cells
              have hxx : (x != x) = false := bne_self_eq_false x
              go_wp2_with fail
              refine HSM.out.mono ?_; rintro e w5 ⟨rfl, hb5⟩
              have B5 := Lib.hid hb5
              clear hb5
              go_wp2_with fail
              refine (HNU.out _ B5.out).mono ?_; rintro e w6 ⟨rfl, hb6⟩
              have HM3 := Lib.hid (HM2.out.below (bTrans B5.out hb6))
              clear hb6
              go_wp2_with fail
              go_roundw
              case rel => exact ⟨k + 1, e1, p1, f1, e2, p2, f2, h1, i1, h2, i2, s', by go_num, by omega, HGS, by omega, HM3⟩
              case measure => simp [intOf]; omega
        | false =>
          go_wp2_with fail
          go_region_with (go_at_call 15; (with_reducible refine (HC1.out _ (Below.drew (Below.refl wr.heap.size wr))).mono ?_); rintro e w' ⟨e1, f1, e2, f2, e3, f3, s', bb, x, rfl, hR, hrd', hr3, hb'⟩; have HBW := Lib.hid (bTrans (Below.drew (Below.refl wr.heap.size wr)) hb'); have HRR := Lib.hid hR; have HRD' := Lib.hid hrd'; have HR3 := Lib.hid hr3; obtain ⟨z1, z2, z3, z4, -⟩ := (HM.out.bs.below HBW.out).cells; have z5 := z3 0; have z6 := z3 1; clear hR hrd' hb' z3 hr3)
          all_goals
            have hbl := HRR.out.blen HG.out
            have HGS := Lib.hid (HG.out.closed HRR.out)
            have hln := HRR.out.len
            rw [HM.out.n2] at hln
            have hg2 := HGS.out.le
            have HM1 := Lib.hid ((HM.out.below HBW.out).putP s' e1 s'.ld.length f1 e2 s'.op.length f2 rfl rfl HRD'.out)
            have R3 := Lib.hid (rd_box2 (a3 := e1) (n3 := s'.ld.length) (c3 := f1) (y := .slice e2 s'.op.length f2) (HM.out.below HBW.out).bs HR3.out)
            obtain ⟨p1, hp1⟩ : ∃ n, s'.ld.length = n := ⟨_, rfl⟩
            obtain ⟨p2, hp2⟩ : ∃ n, s'.op.length = n := ⟨_, rfl⟩
            obtain ⟨p3, hp3⟩ : ∃ n, bb.length = n := ⟨_, rfl⟩
            rw [hp1, hp2] at HM1 R3 ⊢
            rw [hp3] at R3 hbl ⊢
            rw [hp1] at hg2
            rw [hp2] at hln
            rw [HLM.out] at hg2 hbl
            have HP1 := Lib.hid hp1
            have HP2 := Lib.hid hp2
            have HP3 := Lib.hid hp3
            generalize (w'.setCell ⟨w3.heap.size, 0, none⟩ (.slice e1 p1 f1)).setCell ⟨w3.heap.size, 1, none⟩ (.slice e2 p2 f2) = W2 at *
            clear hp1 hp2 hp3 z1 z2 z4 z5 z6 y1 y2 y4 y5 y6 HBW HRD' HR3 hc1 hc2 hgz HO1 HC1
            obtain ⟨g2, off2, hge, hc1, hc2⟩ := (HP.out.below HM1.out.bel).at_ hkl
            cases hge
            rw [HOK.out] at hc1 hc2
            simp only [] at hc1 hc2
            have hgz := heap_lt_of_cell hc1
            obtain ⟨y1, y2, y3, y4, -⟩ := HM1.out.bt.cells
            have y5 := y3 0
            have y6 := y3 1
            clear y3
            have HRC1 := fun W (hW : Below W2.heap.size W2 W) => HRC.out b1 b2 d1 d2 s nm W ((HL.out.below HM1.out.bel).below hW) (HM1.out.rt.below hW) (by rw [HM1.out.m1]; omega) (by rw [HM1.out.m2]; omega) (fun q hq => by rw [← HLM.out]; exact HG.out.opl q hq)
            rw [HM1.out.m1, HM1.out.m2] at HRC1
            have HRC1 := Lib.hid HRC1
            go_wp2_with fail
            go_region_with (go_at_call 16; (with_reducible refine (HRC1.out _ (Below.drew (Below.refl W2.heap.size W2))).mono ?_); rintro e w' ⟨h1, i1, h2, i2, h3, i3, t', cc, y, rfl, kR, krd', kr3, kb'⟩; have KBW := Lib.hid (bTrans (Below.drew (Below.refl W2.heap.size W2)) kb'); have KRR := Lib.hid kR; have KRD' := Lib.hid krd'; have KR3 := Lib.hid kr3; obtain ⟨z1, z2, z3, z4, -⟩ := (HM1.out.bt.below KBW.out).cells; have z5 := z3 0; have z6 := z3 1; clear kR krd' kb' z3 kr3)
            all_goals
              obtain ⟨rfl, rfl, rfl⟩ := HRR.out.det KRR.out
              rw [HP1.out, HP2.out, HP3.out]
              have KR3' := KR3.out
              rw [HP3.out] at KR3'
              have HM2 := Lib.hid ((HM1.out.below KBW.out).putQ s' h1 p1 i1 h2 p2 i2 HP1.out HP2.out KRD'.out)
              have R4 := Lib.hid (rd_box2 (a3 := h1) (n3 := p1) (c3 := i1) (y := .slice h2 p2 i2) (HM1.out.below KBW.out).bt (R3.out.below KBW.out))
              have R5 := Lib.hid (rd_box2 (a3 := h1) (n3 := p1) (c3 := i1) (y := .slice h2 p2 i2) (HM1.out.below KBW.out).bt KR3')
              generalize (w'.setCell ⟨w4.heap.size, 0, none⟩ (.slice h1 p1 i1)).setCell ⟨w4.heap.size, 1, none⟩ (.slice h2 p2 i2) = W3 at *
              clear KR3' KBW KRD' KR3 KRR HRR z1 z2 z4 z5 z6 y1 y2 y4 y5 y6 hc1 hc2 hgz HRC1
              have HSM := same_self e1 e2 h1 h2 f1 f2 i1 i2 s' W3 HM2.out.rs HM2.out.rt (by rw [HP1.out]; omega) (by rw [HP2.out]; omega)
              rw [HP1.out, HP2.out] at HSM
              have HSM := Lib.hid HSM
              have HNU := Lib.hid (fun W (hW : Below W3.heap.size W3 W) => numbers_self e3 h3 p3 f3 p3 i3 (ordZ bb) W (R4.out.below hW) (R5.out.below hW) (by omega) (by omega))
              obtain ⟨y1, y2, -, y4, -⟩ := HM2.out.bs.cells
              obtain ⟨z1, z2, -, z4, -⟩ := HM2.out.bt.cells
              have hxx : (x != x) = false := bne_self_eq_false x
              go_wp2_with fail
              refine HSM.out.mono ?_; rintro e w5 ⟨rfl, hb5⟩
              have B5 := Lib.hid hb5
              clear hb5
              go_wp2_with fail
              refine (HNU.out _ B5.out).mono ?_; rintro e w6 ⟨rfl, hb6⟩
              have HM3 := Lib.hid (HM2.out.below (bTrans B5.out hb6))
              clear hb6
              go_wp2_with fail
              go_roundw
              case rel => exact ⟨k + 1, e1, p1, f1, e2, p2, f2, h1, i1, h2, i2, s', by go_num, by omega, HGS, by omega, HM3⟩
              case measure => simp [intOf]; omega
      · have hop := HG.out.opl
        have HSC1 := HSC.out a1 a2 n1 c1 c2 s.op wr (HL.out.below HM.out.bel) HM.out.rs.2 (fun q hq => by rw [← HLM.out]; exact hop q hq) (by rw [HM.out.n2]; omega)
        have HRS1 := fun W (hW : Below wr.heap.size wr W) => HRS.out b2 d2 s.op W ((HL.out.below HM.out.bel).below hW) (HM.out.rt.2.below hW) (fun q hq => by rw [← HLM.out]; exact hop q hq) (by rw [HM.out.n2]; omega)
        rw [HM.out.n2] at HSC1 HRS1
        have HSC1 := Lib.hid HSC1
        have HRS1 := Lib.hid HRS1
        clear hop HOP HCL HRO HRC HSC HRS y5 y6
        go_wp2_with fail
        refine HSC1.out.mono ?_; rintro e w6 ⟨a6, c6, rfl, hr6, hb6⟩
        have HM6 := Lib.hid (HM.out.below hb6)
        have R6 := Lib.hid hr6
        have B6 := Lib.hid hb6
        have hscl : (scopeL l s.op).length ≤ m := by
          rw [← HLM.out]
          refine nodup_le _ _ (nodup_onceL _) (fun q hq => ?_)
          obtain ⟨i, -, h⟩ := List.mem_flatMap.1 ((mem_onceL _ _).1 hq)
          exact closO_lt q h
        obtain ⟨sc, hsc⟩ : ∃ z, scopeL l s.op = z := ⟨_, rfl⟩
        rw [hsc] at R6 hscl ⊢
        obtain ⟨q6, hq6⟩ : ∃ n, sc.length = n := ⟨_, rfl⟩
        rw [hq6] at R6 hscl ⊢
        have HSCE := Lib.hid hsc
        have HQ6 := Lib.hid hq6
        clear hr6 hb6 hsc hq6 y1 y2 y4
        go_wp2_with fail
        go_loopw [18] (fun i w7 => ∃ k : Nat, i = .int .i64 k ∧ k ≤ m ∧ Hid (Below w6.heap.size w6 w7)) (fun i _ => m - (intOf i).toNat)
        case atStart => exact ⟨0, rfl, by omega, Lib.hid (Below.refl _ _)⟩
        case round =>
          obtain ⟨j, rfl, hj, B7⟩ := hrel
          have HM7 := Lib.hid (HM6.out.below B7.out)
          obtain ⟨y1, y2, -, y4, -⟩ := HM7.out.bs.cells
          by_cases hjm : j < m
          · have HCO := count_any a1 a2 n1 c1 c2 s.op j wr HM7.out.rs.2 (by rw [HM7.out.n2]; omega)
            rw [HM7.out.n2] at HCO
            obtain ⟨cn, hcn⟩ : ∃ r, s.op.count j = r := ⟨_, rfl⟩
            rw [hcn] at HCO
            have HCN := Lib.hid hcn
            have HCO := Lib.hid HCO
            clear hcn
            go_wp2_with fail
            refine HCO.out.mono ?_; rintro e w8 ⟨rfl, hb8⟩
            have B8 := Lib.hid (bTrans B7.out hb8)
            have HM8 := Lib.hid (HM7.out.below hb8)
            clear hb8 HM7 y1 y2 y4 HCO
            obtain ⟨y1, y2, -, y4, -⟩ := HM8.out.bt.cells
            go_wp2_with fail
            go_loop [20, 21] (fun v i => ∃ q r : Nat, v = .int .i64 r ∧ i = .int .i64 q ∧ q ≤ n2 ∧ r ≤ q ∧ Hid (r = (s.op.take q).count j)) (fun _ i => n2 - (intOf i).toNat)
            case atStart => exact ⟨0, 0, rfl, rfl, by omega, by omega, Lib.hid (by simp)⟩
            case round =>
              obtain ⟨q, r, rfl, rfl, hq, hr, HR⟩ := hrel
              by_cases hqn : q < n2
              · have hql : q < s.op.length := by rw [HM8.out.n2]; exact hqn
                obtain ⟨g8, f8, rfl, -, hc⟩ := (HM8.out.rt.2).at_ (show q < s.op.length by rw [HM8.out.n2]; exact hqn)
                rw [ordZ_get s.op q hql] at hc
                have htk := List.take_succ_eq_append_getElem hql
                obtain ⟨y, hy⟩ : ∃ y, s.op[q] = y := ⟨_, rfl⟩
                rw [hy] at hc htk
                have HTK := Lib.hid (show (s.op.take (q + 1)).count j = r + if y = j then 1 else 0 by rw [htk, List.count_append, ← HR.out, List.count_singleton]; simp)
                clear htk hy
                have qq0 : (0 : Int) ≤ (q : Int) := by omega
                have qq1 : (q : Int) < (n2 : Int) := by omega
                by_cases hyk : y = j
                · subst hyk
                  have hself : ((y : Int) == (y : Int)) = true := by simp
                  go_wp2_with fail
                  go_round
                  case rel => exact ⟨q + 1, r + 1, by go_num, by go_num, by omega, by omega, Lib.hid (by rw [HTK.out, if_pos rfl])⟩
                  case measure => simp [intOf]; omega
                · have hself : ((y : Int) == (j : Int)) = false := beq_eq_false_iff_ne.2 (by omega)
                  go_wp2_with fail
                  go_round
                  case rel => exact ⟨q + 1, r, rfl, by go_num, by omega, by omega, Lib.hid (by rw [HTK.out, if_neg hyk]; rfl)⟩
                  case measure => simp [intOf]; omega
              · have hr2 : r = cn := by rw [← HCN.out, HR.out, List.take_of_length_le (by rw [HM8.out.n2]; omega)]
                subst hr2
                have hss : ((r : Int) != (r : Int)) = false := bne_self_eq_false _
                clear HR HCN
                go_wp2_with fail
                go_roundw
                case rel => exact ⟨j + 1, by go_num, by omega, B8⟩
                case measure => simp [intOf]; omega
          · clear y1 y2 y4
            obtain ⟨y1, y2, -, y4, -⟩ := HM7.out.bt.cells
            go_wp2_with fail
            refine (HRS1.out _ (bTrans B6.out B7.out)).mono ?_; rintro e w8 ⟨a8, c8, rfl, hr8, hb8⟩
            rw [HSCE.out] at hr8 ⊢
            rw [HQ6.out] at hr8 ⊢
            have HNU := Lib.hid (numbers_self a6 a8 q6 c6 q6 c8 (ordZ sc) w8 ((R6.out.below B7.out).below hb8) hr8 (by omega) (by omega))
            have B8 := Lib.hid (bTrans HM7.out.bel hb8)
            clear hr8 hb8
            go_wp2_with fail
            refine HNU.out.mono ?_; rintro e w9 ⟨rfl, hb9⟩
            have B9 := Lib.hid (bTrans B8.out hb9)
            clear hb9
            go_wp2_with fail
            go_ret
            exact ⟨rfl, B9.out⟩
theorem DlPlays_walk (a : Option Addr) (l : List Obj) (c : Nat) (root : List UInt8) (b : Option Addr) (ops : List (Bool × List UInt8)) (d : Nat) (w : World) (hl : RdO w a l) (hn : (∀ o ∈ l, o.name.length ≤ maxLen ∧ ∀ n ∈ o.needs, n.length ≤ maxLen) ∧ ∀ o ∈ l, o.needs.length ≤ maxLen) (hm : l.length ≤ maxLen) (hroot : root.length ≤ maxLen) (hp : RdP w b ops) (hpm : ∀ o ∈ ops, o.2.length ≤ maxLen) (hpl : ops.length ≤ maxLen) :
    Calls Try.prog 3 #[.slice a l.length c, .string ⟨root.toArray⟩, .slice b ops.length d] w fun e w' => e = .returned (.bool true) ∧ Below w.heap.size w w' := by
  by_cases hs : shortB l 12 = true
  · by_cases h : 40 < ops.length
    · exact plays_no a l c root b ops d w hl hn.2 hm hpl (Or.inr h)
    · obtain ⟨hnm, hm12⟩ := short_named hs hn.1
      exact plays_yes a l c root b ops d w hl hs hnm hm12 hroot hp (by omega) hpm
  · exact plays_no a l c root b ops d w hl hn.2 hm hpl (Or.inl ((Bool.not_eq_true _).mp hs))
end Go.Proofs.Ytfneikphgmjfbaa
