/- DlEither: its walk. -/
import Derived.Test.YtfneikphgmjfbaaDlP
import Derived.Deep.RegionHeld3
namespace Go.Proofs.Ytfneikphgmjfbaa
set_option linter.unusedVariables false
set_option linter.unusedSimpArgs false
open Go.Joins Go.ChangeShapes Go.WideShapes Go.ChangeAt Go.RowKit Go.Deep

set_option maxHeartbeats 1000000 in
theorem either_no (a : Option Addr) (l : List Obj) (c : Nat) (root : List UInt8) (b : Option Addr) (ops : List (Bool × List UInt8)) (d : Nat) (one : List UInt8) (two : List UInt8) (w : World) (hl : RdO w a l) (hnd : ∀ o ∈ l, o.needs.length ≤ maxLen) (hm : l.length ≤ maxLen) (hpm : ops.length ≤ maxLen) (h : shortB l 12 = false ∨ 20 < ops.length) :
    Calls Try.prog 8 #[.slice a l.length c, .string ⟨root.toArray⟩, .slice b ops.length d, .string ⟨one.toArray⟩, .string ⟨two.toArray⟩] w fun e w' => e = .returned (.bool true) ∧ Below w.heap.size w w' := by
  have HL := Lib.hid hl
  have HSH := Lib.hid (fun W (hW : RdO W a l) => short_any a l c 12 W hW hm (by omega) hnd)
  obtain ⟨sh, hsh⟩ : ∃ sh, shortB l 12 = sh := ⟨_, rfl⟩
  rw [hsh] at HSH h
  clear hl hnd hm hsh
  unfold maxLen at hpm
  obtain ⟨m, hlm⟩ : ∃ m, l.length = m := ⟨_, rfl⟩
  obtain ⟨n, hn⟩ : ∃ n, ops.length = n := ⟨_, rfl⟩
  rw [hlm] at HSH ⊢
  rw [hn] at h hpm ⊢
  clear hlm hn
  go_enter Try.func8, Try.ntmps8
  go_wp2_with fail
  refine (dawake_any _).mono ?_; rintro e w1 ⟨rfl, hb1⟩
  have B1 := Lib.hid hb1
  clear hb1
  go_wp2_with fail
  refine (HSH.out _ (HL.out.below B1.out)).mono ?_; rintro e w2 ⟨rfl, rfl⟩
  cases sh with
  | false =>
    clear h
    go_wp2_with fail
    go_ret
    exact ⟨rfl, B1.out⟩
  | true =>
    have h40 : 20 < n := by rcases h with h | h; cases h; exact h
    have d40 : decide ((20 : Int) < (n : Int)) = true := decide_eq_true (by omega)
    clear h
    go_wp2_with fail
    go_ret
    exact ⟨rfl, B1.out⟩
set_option maxRecDepth 100000 in
set_option maxHeartbeats 8000000 in
theorem either_yes (a : Option Addr) (l : List Obj) (c : Nat) (root : List UInt8) (b : Option Addr) (ops : List (Bool × List UInt8)) (d : Nat) (one : List UInt8) (two : List UInt8) (w : World) (hl : RdO w a l) (hs : shortB l 12 = true) (hnm : Named l) (hm : l.length ≤ 12) (hroot : root.length ≤ maxLen) (hp : RdP w b ops) (hpn : ops.length ≤ 20) (hpm : ∀ o ∈ ops, o.2.length ≤ maxLen) (hone : one.length ≤ maxLen) (htwo : two.length ≤ maxLen) :
    Calls Try.prog 8 #[.slice a l.length c, .string ⟨root.toArray⟩, .slice b ops.length d, .string ⟨one.toArray⟩, .string ⟨two.toArray⟩] w fun e w' => e = .returned (.bool true) ∧ Below w.heap.size w w' := by
  have HL := Lib.hid hl
  have HSH := Lib.hid (fun W (hW : RdO W a l) => short_any a l c 12 W hW (by unfold maxLen; omega) (by omega) (fun o ho => by have := (hnm o ho).2.1; unfold maxLen; omega))
  have HMD := Lib.hid (fun W (hW : RdO W a l) (hP : RdP W b ops) => made_any a l c root b ops d W hW (by omega) hnm hroot hP (by omega) hpm)
  have HOP := Lib.hid (fun a1 a2 c1 c2 (s : St) nm W (hW : RdO W a l) (hs : RdSt W a1 a2 s) (hn1 : s.ld.length ≤ 1000) (hn2 : s.op.length ≤ 100) (hnl : nm.length ≤ maxLen) => open_any a l c a1 a2 c1 c2 s nm W hW (by omega) hnm hs hn1 (by omega) hnl)
  have HP := Lib.hid hp
  have HNM := Lib.hid hnm
  rw [hs] at HSH
  clear hl hs hp hpm hnm
  have hm12 := hm
  obtain ⟨m, hlm⟩ : ∃ m, l.length = m := ⟨_, rfl⟩
  obtain ⟨n, hn⟩ : ∃ n, ops.length = n := ⟨_, rfl⟩
  rw [hlm] at hm ⊢
  simp only [hlm] at HSH HMD HOP
  rw [hn] at hpn HMD ⊢
  have HLM := Lib.hid hlm
  have d40 : decide ((20 : Int) < (n : Int)) = false := decide_eq_false (by omega)
  clear hlm hn hm12
  go_enter Try.func8, Try.ntmps8
  go_wp2_with fail
  refine (dawake_any _).mono ?_; rintro e w1 ⟨rfl, hb1⟩
  have B1 := Lib.hid hb1
  clear hb1
  go_wp2_with fail
  refine (HSH.out _ (HL.out.below B1.out)).mono ?_; rintro e w2 ⟨rfl, rfl⟩
  go_wp2_with fail
  clear d40
  refine (HMD.out _ (HL.out.below B1.out) (HP.out.below B1.out)).mono ?_; rintro e w3 ⟨a1, c1, a2, c2, s, ok, rfl, hok, hrd, hb3⟩
  have B3 := Lib.hid (bTrans B1.out hb3)
  cases ok with
  | false =>
    clear hok hrd hb3
    go_wp2_with fail
    go_ret
    exact ⟨rfl, bAlloc B3.out _⟩
  | true =>
    rw [if_pos rfl] at hok
    obtain ⟨hG, hgl⟩ := hok
    have HG := Lib.hid hG
    have hld := hG.le
    rw [HLM.out] at hld
    have HRD := Lib.hid hrd
    clear hG hrd hb3
    have HO1 := HOP.out a1 a2 c1 c2 s one _ ((HL.out.below B3.out).below (bAlloc (Below.refl _ _) (.cells #[.slice a1 s.ld.length c1, .slice a2 s.op.length c2] 28))) (HRD.out.below (bAlloc (Below.refl _ _) _)) (by omega) (by omega) hone
    have HO1 := Lib.hid HO1
    have HO3 := Lib.hid (fun W (hb : Below w3.heap.size w3 W) => HOP.out a1 a2 c1 c2 s two W ((HL.out.below B3.out).below hb) (HRD.out.below hb) (by omega) (by omega) htwo)
    obtain ⟨n1, hn1⟩ : ∃ n, s.ld.length = n := ⟨_, rfl⟩
    obtain ⟨n2, hn2⟩ : ∃ n, s.op.length = n := ⟨_, rfl⟩
    rw [hn1, hn2] at HO1 HO3 ⊢
    rw [hn2] at hgl
    have HN2 := Lib.hid hn2
    clear hn1 hn2
    go_wp2_with fail
    refine HO1.out.mono ?_; rintro e w4 ⟨b1, d1, b2, d2, b3, d3, A, bbA, xA, rfl, hA, hrdA, -, hb4⟩
    have HA := Lib.hid hA
    have GA := Lib.hid (HG.out.opened hA)
    have BS := Lib.hid ((BoxS.new w3 (.slice a1 n1 c1) (.slice a2 n2 c2) 28).below hb4)
    have B4 := Lib.hid (bTrans (bAlloc B3.out _) hb4)
    have K4 := Lib.hid (bTrans (bAlloc (Below.refl w3.heap.size w3) _) hb4)
    have la := hA.len
    rw [HN2.out] at la
    have la1 := GA.out.le
    rw [HLM.out] at la1
    have HO2 := HOP.out b1 b2 d1 d2 A two _ ((HL.out.below B4.out).below (bAlloc (Below.refl _ _) (.cells #[.slice b1 A.ld.length d1, .slice b2 A.op.length d2] 28))) (hrdA.below (bAlloc (Below.refl _ _) _)) (by omega) (by omega) htwo
    have HO2 := Lib.hid HO2
    clear hA hrdA hb4 HO1
    obtain ⟨p1, hp1⟩ : ∃ n, A.ld.length = n := ⟨_, rfl⟩
    obtain ⟨p2, hp2⟩ : ∃ n, A.op.length = n := ⟨_, rfl⟩
    rw [hp1, hp2] at HO2 ⊢
    rw [hp2] at la
    have HP2 := Lib.hid hp2
    clear hp1 hp2 la1
    go_wp2_with fail
    refine HO2.out.mono ?_; rintro e w5 ⟨e1, f1, e2, f2, e3, f3, Bt, bbB, xB, rfl, hB, hrdB, -, hb5⟩
    have HB := Lib.hid hB
    have GB := Lib.hid (GA.out.opened hB)
    have BS := Lib.hid ((BS.out.below (bAlloc (Below.refl _ _) _)).below hb5)
    have B5 := Lib.hid (bTrans (bAlloc B4.out _) hb5)
    have K5 := Lib.hid (bTrans (bAlloc K4.out _) hb5)
    have RB := Lib.hid hrdB
    have lb := hB.len
    rw [HP2.out] at lb
    have lb1 := GB.out.le
    rw [HLM.out] at lb1
    unfold RdSt at RB
    clear hB hrdB hb5 HO2
    obtain ⟨q1, hq1⟩ : ∃ n, Bt.ld.length = n := ⟨_, rfl⟩
    obtain ⟨q2, hq2⟩ : ∃ n, Bt.op.length = n := ⟨_, rfl⟩
    rw [hq1, hq2] at RB ⊢
    rw [hq2] at lb
    rw [hq1] at lb1
    have HQ1 := Lib.hid hq1
    have HQ2 := Lib.hid hq2
    clear hq1 hq2
    have BB := Lib.hid (BoxS.new w5 (.slice e1 q1 f1) (.slice e2 q2 f2) 28)
    have RB := Lib.hid (And.intro (RB.out.1.alloc (.cells #[.slice e1 q1 f1, .slice e2 q2 f2] 28)) (RB.out.2.alloc (.cells #[.slice e1 q1 f1, .slice e2 q2 f2] 28)))
    have B5a := Lib.hid (bAlloc B5.out (.cells #[.slice e1 q1 f1, .slice e2 q2 f2] 28))
    have K5a := Lib.hid (bAlloc K5.out (.cells #[.slice e1 q1 f1, .slice e2 q2 f2] 28))
    obtain ⟨s1, s2, -, s4, -⟩ := BS.out.cells
    go_wp2_with fail
    refine (HO3.out _ K5a.out).mono ?_; rintro e w6 ⟨g1, h1, g2, h2, g3, h3, Ct, bbC, xC, rfl, hC, hrdC, -, hb6⟩
    have HC := Lib.hid hC
    have GC := Lib.hid (HG.out.opened hC)
    have BB := Lib.hid (BB.out.below hb6)
    have RB := Lib.hid (And.intro (RB.out.1.below hb6) (RB.out.2.below hb6))
    have B6 := Lib.hid (bTrans B5a.out hb6)
    have lc := hC.len
    rw [HN2.out] at lc
    have lc1 := GC.out.le
    rw [HLM.out] at lc1
    have HO4 := HOP.out g1 g2 h1 h2 Ct one _ ((HL.out.below B6.out).below (bAlloc (Below.refl _ _) (.cells #[.slice g1 Ct.ld.length h1, .slice g2 Ct.op.length h2] 28))) (hrdC.below (bAlloc (Below.refl _ _) _)) (by omega) (by omega) hone
    have HO4 := Lib.hid HO4
    clear hC hrdC hb6 HO3 s1 s2 s4 BS B5a K5a
    obtain ⟨r1, hr1⟩ : ∃ n, Ct.ld.length = n := ⟨_, rfl⟩
    obtain ⟨r2, hr2⟩ : ∃ n, Ct.op.length = n := ⟨_, rfl⟩
    rw [hr1, hr2] at HO4 ⊢
    clear hr1 hr2 lc1
    go_wp2_with fail
    refine HO4.out.mono ?_; rintro e w7 ⟨i1, j1, i2, j2, i3, j3, Dt, bbD, xD, rfl, hD, hrdD, -, hb7⟩
    obtain ⟨rfl, rfl, hlen1, hlen2, hmem, hcnt⟩ := either HG.out HA.out HB.out HC.out hD
    have BB := Lib.hid ((BB.out.below (bAlloc (Below.refl _ _) _)).below hb7)
    have RB := Lib.hid (And.intro ((RB.out.1.below (bAlloc (Below.refl _ _) _)).below hb7) ((RB.out.2.below (bAlloc (Below.refl _ _) _)).below hb7))
    have B7 := Lib.hid (bTrans (bAlloc B6.out _) hb7)
    have RDd := Lib.hid hrdD
    unfold RdSt at RDd
    rw [← hlen1, ← hlen2, HQ1.out, HQ2.out] at RDd ⊢
    have HCT := Lib.hid (show ∀ k, Bt.ld.contains k = Dt.ld.contains k from fun k => by rw [Bool.eq_iff_iff, List.contains_iff_mem, List.contains_iff_mem]; exact hmem k)
    have HCN := Lib.hid hcnt
    have HQD := Lib.hid (show Dt.op.length = q2 by rw [← hlen2, HQ2.out])
    have hs1 : (xA != xA) = false := by simp
    have hs2 : (xB != xB) = false := by simp
    have hs3 : ((q1 : Int) != (q1 : Int)) = false := by simp
    have hs4 : ((q2 : Int) != (q2 : Int)) = false := by simp
    clear hD hrdD hb7 hlen1 hlen2 hmem hcnt HO4
    have BD := Lib.hid (BoxS.new w7 (.slice i1 q1 j1) (.slice i2 q2 j2) 28)
    have BB := Lib.hid (BB.out.below (bAlloc (Below.refl _ _) (.cells #[.slice i1 q1 j1, .slice i2 q2 j2] 28)))
    have RB := Lib.hid (And.intro (RB.out.1.alloc (.cells #[.slice i1 q1 j1, .slice i2 q2 j2] 28)) (RB.out.2.alloc (.cells #[.slice i1 q1 j1, .slice i2 q2 j2] 28)))
    have RDd := Lib.hid (And.intro (RDd.out.1.alloc (.cells #[.slice i1 q1 j1, .slice i2 q2 j2] 28)) (RDd.out.2.alloc (.cells #[.slice i1 q1 j1, .slice i2 q2 j2] 28)))
    have B8 := Lib.hid (bAlloc B7.out (.cells #[.slice i1 q1 j1, .slice i2 q2 j2] 28))
    obtain ⟨t1, t2, -, t4, -⟩ := BB.out.cells
    obtain ⟨v1, v2, -, v4, -⟩ := BD.out.cells
    go_wp2_with fail
    clear t1 t2 t4 v1 v2 v4 hs1 hs2 hs3 hs4
    generalize w7.alloc (.cells #[.slice i1 q1 j1, .slice i2 q2 j2] 28) = W8 at *
    go_loopw [27] (fun i wr => ∃ j : Nat, j ≤ m ∧ i = .int .i64 j ∧ Hid (Below W8.heap.size W8 wr)) (fun i _ => m - (intOf i).toNat)
    case atStart => exact ⟨0, by omega, rfl, Lib.hid (Below.refl _ _)⟩
    case round =>
      obtain ⟨j, hj, rfl, HBB⟩ := hrel
      by_cases h : j < m
      · have H1 := Lib.hid (has_any e1 (ordZ Bt.ld) q1 f1 (j : Int) wr (RB.out.1.below HBB.out) (by omega))
        have H2 := Lib.hid (has_any i1 (ordZ Dt.ld) q1 j1 (j : Int) wr (RDd.out.1.below HBB.out) (by omega))
        rw [ordZ_contains] at H1 H2
        rw [← HCT.out j] at H2
        have C1 := fun W (hW : Below W8.heap.size W8 W) => count_any e1 e2 q1 f1 f2 Bt.op j W (by rw [HQ2.out]; exact RB.out.2.below hW) (by rw [HQ2.out]; omega)
        have C2 := fun W (hW : Below W8.heap.size W8 W) => count_any i1 i2 q1 j1 j2 Dt.op j W (by rw [HQD.out]; exact RDd.out.2.below hW) (by rw [HQD.out]; omega)
        rw [HQ2.out] at C1
        rw [HQD.out, ← HCN.out j] at C2
        have C1 := Lib.hid C1
        have C2 := Lib.hid C2
        generalize Bt.ld.contains j = q at H1 H2
        generalize Bt.op.count j = cn at C1 C2
        obtain ⟨t1, t2, -, t4, -⟩ := (BB.out.below HBB.out).cells
        obtain ⟨v1, v2, -, v4, -⟩ := (BD.out.below HBB.out).cells
        go_wp2_with fail
        refine H1.out.mono ?_; rintro e w9 ⟨rfl, rfl⟩
        go_wp2_with fail
        refine H2.out.mono ?_; rintro e w9 ⟨rfl, rfl⟩
        go_wp2_with fail
        refine (C1.out _ HBB.out).mono ?_; rintro e w9 ⟨rfl, hb9⟩
        have HB9 := Lib.hid (bTrans HBB.out hb9)
        clear hb9 t1 t2 t4 v1 v2 v4
        obtain ⟨v1, v2, -, v4, -⟩ := (BD.out.below HB9.out).cells
        go_wp2_with fail
        refine (C2.out _ HB9.out).mono ?_; rintro e w10 ⟨rfl, hb10⟩
        have HB10 := Lib.hid (bTrans HB9.out hb10)
        have hs5 : (q != q) = false := by simp
        have hs6 : ((cn : Int) != (cn : Int)) = false := by simp
        clear hb10 v1 v2 v4
        go_wp2_with fail
        go_roundw
        case rel => exact ⟨j + 1, by omega, by go_num, HB10⟩
        case measure => simp [intOf]; omega
      · have HFIN := Lib.hid (bTrans B8.out HBB.out)
        go_wp2_with fail
        go_ret
        exact ⟨rfl, HFIN.out⟩
theorem DlEither_walk (a : Option Addr) (l : List Obj) (c : Nat) (root : List UInt8) (b : Option Addr) (ops : List (Bool × List UInt8)) (d : Nat) (one : List UInt8) (two : List UInt8) (w : World) (hl : RdO w a l) (hn : (∀ o ∈ l, o.name.length ≤ maxLen ∧ ∀ n ∈ o.needs, n.length ≤ maxLen) ∧ ∀ o ∈ l, o.needs.length ≤ maxLen) (hm : l.length ≤ maxLen) (hroot : root.length ≤ maxLen) (hp : RdP w b ops) (hpm : ∀ o ∈ ops, o.2.length ≤ maxLen) (hpl : ops.length ≤ maxLen) (hone : one.length ≤ maxLen) (htwo : two.length ≤ maxLen) :
    Calls Try.prog 8 #[.slice a l.length c, .string ⟨root.toArray⟩, .slice b ops.length d, .string ⟨one.toArray⟩, .string ⟨two.toArray⟩] w fun e w' => e = .returned (.bool true) ∧ Below w.heap.size w w' := by
  by_cases hs : shortB l 12 = true
  · by_cases h40 : ops.length ≤ 20
    · obtain ⟨hnm, hm12⟩ := short_named hs hn.1
      exact either_yes a l c root b ops d one two w hl hs hnm hm12 hroot hp h40 hpm hone htwo
    · exact either_no a l c root b ops d one two w hl hn.2 hm hpl (Or.inr (by omega))
  · exact either_no a l c root b ops d one two w hl hn.2 hm hpl (Or.inl ((Bool.not_eq_true _).mp hs))
end Go.Proofs.Ytfneikphgmjfbaa
