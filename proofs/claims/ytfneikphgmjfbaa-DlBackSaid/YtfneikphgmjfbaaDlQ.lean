/- DlBack: its walk. -/
import Derived.Test.YtfneikphgmjfbaaDlP
import Derived.Deep.RegionHeld3
namespace Go.Proofs.Ytfneikphgmjfbaa
set_option linter.unusedVariables false
set_option linter.unusedSimpArgs false
open Go.Joins Go.ChangeShapes Go.WideShapes Go.ChangeAt Go.RowKit Go.Deep

set_option maxHeartbeats 1000000 in
theorem back_no (a : Option Addr) (l : List Obj) (c : Nat) (root : List UInt8) (b : Option Addr) (ops : List (Bool × List UInt8)) (d : Nat) (name : List UInt8) (w : World) (hl : RdO w a l) (hnd : ∀ o ∈ l, o.needs.length ≤ maxLen) (hm : l.length ≤ maxLen) (hpm : ops.length ≤ maxLen) (h : shortB l 12 = false ∨ 30 < ops.length) :
    Calls Try.prog 5 #[.slice a l.length c, .string ⟨root.toArray⟩, .slice b ops.length d, .string ⟨name.toArray⟩] w fun e w' => e = .returned (.bool true) ∧ Below w.heap.size w w' := by
  have HL := Lib.hid hl
  have HSH := Lib.hid (fun W (hW : RdO W a l) => short_any a l c 12 W hW hm (by omega) hnd)
  obtain ⟨sh, hsh⟩ : ∃ sh, shortB l 12 = sh := ⟨_, rfl⟩
  rw [hsh] at HSH h
  clear hl hnd hm hsh
  unfold maxLen at hpm
  obtain ⟨m, hlm⟩ : ∃ m, l.length = m := ⟨_, rfl⟩
  obtain ⟨n, hn⟩ : ∃ n, ops.length = n := ⟨_, rfl⟩
  rw [hlm] at HSH ⊢
  rw [hn] at h hpm ⊢
  clear hlm hn
  go_enter Try.func5, Try.ntmps5
  go_wp2_with fail
  refine (dawake_any _).mono ?_; rintro e w1 ⟨rfl, hb1⟩
  have B1 := Lib.hid hb1
  clear hb1
  go_wp2_with fail
  refine (HSH.out _ (HL.out.below B1.out)).mono ?_; rintro e w2 ⟨rfl, rfl⟩
  cases sh with
  | false =>
    clear h
    go_wp2_with fail
    go_ret
    exact ⟨rfl, B1.out⟩
  | true =>
    have h40 : 30 < n := by rcases h with h | h; cases h; exact h
    have d40 : decide ((30 : Int) < (n : Int)) = true := decide_eq_true (by omega)
    clear h
    go_wp2_with fail
    go_ret
    exact ⟨rfl, B1.out⟩
set_option maxRecDepth 100000 in
set_option maxHeartbeats 8000000 in
theorem back_yes (a : Option Addr) (l : List Obj) (c : Nat) (root : List UInt8) (b : Option Addr) (ops : List (Bool × List UInt8)) (d : Nat) (name : List UInt8) (w : World) (hl : RdO w a l) (hs : shortB l 12 = true) (hnm : Named l) (hm : l.length ≤ 12) (hroot : root.length ≤ maxLen) (hp : RdP w b ops) (hpn : ops.length ≤ 30) (hpm : ∀ o ∈ ops, o.2.length ≤ maxLen) (hname : name.length ≤ maxLen) :
    Calls Try.prog 5 #[.slice a l.length c, .string ⟨root.toArray⟩, .slice b ops.length d, .string ⟨name.toArray⟩] w fun e w' => e = .returned (.bool true) ∧ Below w.heap.size w w' := by
  have HL := Lib.hid hl
  have HSH := Lib.hid (fun W (hW : RdO W a l) => short_any a l c 12 W hW (by unfold maxLen; omega) (by omega) (fun o ho => by have := (hnm o ho).2.1; unfold maxLen; omega))
  have HMD := Lib.hid (fun W (hW : RdO W a l) (hP : RdP W b ops) => made_any a l c root b ops d W hW (by omega) hnm hroot hP (by omega) hpm)
  have HOP := Lib.hid (fun a1 a2 c1 c2 (s : St) nm W (hW : RdO W a l) (hs : RdSt W a1 a2 s) (hn1 : s.ld.length ≤ 1000) (hn2 : s.op.length ≤ 100) (hnl : nm.length ≤ maxLen) => open_any a l c a1 a2 c1 c2 s nm W hW (by omega) hnm hs hn1 (by omega) hnl)
  have HCL := Lib.hid (fun a1 a2 c1 c2 (s : St) nm W (hW : RdO W a l) (hs : RdSt W a1 a2 s) (hn1 : s.ld.length ≤ 1000) (hn2 : s.op.length ≤ 100) (hop : ∀ k ∈ s.op, k < l.length) => close_any a l c a1 a2 c1 c2 s nm W hW (by omega) hnm hs hn1 hn2 hop)
  have HP := Lib.hid hp
  have HNM := Lib.hid hnm
  rw [hs] at HSH
  clear hl hs hp hpm hnm
  have hm12 := hm
  obtain ⟨m, hlm⟩ : ∃ m, l.length = m := ⟨_, rfl⟩
  obtain ⟨n, hn⟩ : ∃ n, ops.length = n := ⟨_, rfl⟩
  rw [hlm] at hm ⊢
  simp only [hlm] at HSH HMD HOP HCL
  rw [hn] at hpn HMD ⊢
  have HLM := Lib.hid hlm
  have d40 : decide ((30 : Int) < (n : Int)) = false := decide_eq_false (by omega)
  clear hlm hn hm12
  go_enter Try.func5, Try.ntmps5
  go_wp2_with fail
  refine (dawake_any _).mono ?_; rintro e w1 ⟨rfl, hb1⟩
  have B1 := Lib.hid hb1
  clear hb1
  go_wp2_with fail
  refine (HSH.out _ (HL.out.below B1.out)).mono ?_; rintro e w2 ⟨rfl, rfl⟩
  go_wp2_with fail
  clear d40
  refine (HMD.out _ (HL.out.below B1.out) (HP.out.below B1.out)).mono ?_; rintro e w3 ⟨a1, c1, a2, c2, s, ok, rfl, hok, hrd, hb3⟩
  have B3 := Lib.hid (bTrans B1.out hb3)
  cases ok with
  | false =>
    clear hok hrd hb3
    go_wp2_with fail
    go_ret
    exact ⟨rfl, bAlloc B3.out _⟩
  | true =>
    rw [if_pos rfl] at hok
    obtain ⟨hG, hgl⟩ := hok
    have HG := Lib.hid hG
    have hld := hG.le
    rw [HLM.out] at hld
    have HRD := Lib.hid hrd
    clear hG hrd hb3
    have HO1 := HOP.out a1 a2 c1 c2 s name _ ((HL.out.below B3.out).below (bAlloc (Below.refl _ _) (.cells #[.slice a1 s.ld.length c1, .slice a2 s.op.length c2] 28))) (HRD.out.below (bAlloc (Below.refl _ _) _)) (by omega) (by omega) hname
    have HO1 := Lib.hid HO1
    obtain ⟨n1, hn1⟩ : ∃ n, s.ld.length = n := ⟨_, rfl⟩
    obtain ⟨n2, hn2⟩ : ∃ n, s.op.length = n := ⟨_, rfl⟩
    unfold RdSt at HRD
    rw [hn1, hn2] at HO1 HRD ⊢
    rw [hn1] at hld
    rw [hn2] at hgl
    have HN1 := Lib.hid hn1
    have HN2 := Lib.hid hn2
    clear hn1 hn2
    go_wp2_with fail
    refine HO1.out.mono ?_; rintro e w4 ⟨b1, d1, b2, d2, b3, d3, t, bb, x, rfl, hR, hrd4, hr34, hb4⟩
    have BX := Lib.hid ((BoxS.new w3 (.slice a1 n1 c1) (.slice a2 n2 c2) 28).below hb4)
    have B4 := Lib.hid (bTrans (bAlloc B3.out _) hb4)
    have R1 := Lib.hid ((HRD.out.1.below (bAlloc (Below.refl _ _) _)).below hb4)
    have R2 := Lib.hid ((HRD.out.2.below (bAlloc (Below.refl _ _) _)).below hb4)
    have HR4 := Lib.hid hR
    have RT := Lib.hid hrd4
    have RB := Lib.hid hr34
    have hGt := HG.out.opened hR
    have HGT := Lib.hid hGt
    have hlt := hGt.le
    have hlo := hR.len
    rw [HLM.out] at hlt
    rw [HN2.out] at hlo
    clear hrd4 hr34 hb4 hGt HO1
    by_cases hx : x = 0
    · subst hx
      have HC1 := HCL.out b1 b2 d1 d2 t name _ ((HL.out.below B4.out).below (bAlloc (Below.refl _ _) (.cells #[.slice b1 t.ld.length d1, .slice b2 t.op.length d2] 28))) (RT.out.below (bAlloc (Below.refl _ _) _)) (by omega) (by omega) (fun q hq => by rw [← HLM.out]; exact HGT.out.opl q hq)
      have HC1 := Lib.hid HC1
      clear hR
      obtain ⟨y1, y2, -, y4, -⟩ := BX.out.cells
      generalize t.ld.length = m1 at *
      generalize t.op.length = m2 at *
      obtain ⟨n3, hn3⟩ : ∃ n, bb.length = n := ⟨_, rfl⟩
      rw [hn3] at RB ⊢
      have HN3 := Lib.hid hn3
      clear hn3
      go_wp2_with fail
      refine HC1.out.mono ?_; rintro e w5 ⟨e1, f1, e2, f2, e3, f3, u, cc, xx, rfl, hC, hrd5, hr35, hb5⟩
      obtain ⟨rfl, rfl, rfl⟩ := HG.out.back HR4.out rfl hC
      have hn3' : bb.reverse.length = n3 := by rw [List.length_reverse, HN3.out]
      unfold RdSt at hrd5
      rw [HN1.out, HN2.out] at hrd5 ⊢
      rw [hn3'] at hr35 ⊢
      have BX := Lib.hid ((BX.out.below (bAlloc (Below.refl _ _) _)).below hb5)
      have B5 := Lib.hid (bTrans (bAlloc B4.out _) hb5)
      have R1 := Lib.hid ((R1.out.below (bAlloc (Below.refl _ _) _)).below hb5)
      have R2 := Lib.hid ((R2.out.below (bAlloc (Below.refl _ _) _)).below hb5)
      have RB := Lib.hid ((RB.out.below (bAlloc (Below.refl _ _) _)).below hb5)
      have RU := Lib.hid hrd5
      have RE := Lib.hid hr35
      have hbl : bb.length ≤ 9223372036854775807 := by
        have h0 := HR4.out
        rcases h0 with ⟨-, -, rfl, -⟩ | ⟨p, b0, hB, rfl, -, -⟩
        · simp
        · have h1 := hB.facts
          have h2 := nodup_le l.length _ (h1.2.2.1.filter (fun k => !u.ld.contains k)) (fun k hk => h1.2.2.2.2.1 k (List.mem_filter.1 hk).1)
          have := HLM.out
          omega
      rw [HN3.out] at hbl
      have hself : ((n3 : Int) != (n3 : Int)) = false := by simp
      clear hrd5 hr35 hb5 hC hn3' HC1 y1 y2 y4
      have BU := Lib.hid (BoxS.new w5 (.slice e1 n1 f1) (.slice e2 n2 f2) 28)
      have BX := Lib.hid (BX.out.below (bAlloc (Below.refl _ _) (.cells #[.slice e1 n1 f1, .slice e2 n2 f2] 28)))
      have B6 := Lib.hid (bAlloc B5.out (.cells #[.slice e1 n1 f1, .slice e2 n2 f2] 28))
      have R1 := Lib.hid (R1.out.alloc (.cells #[.slice e1 n1 f1, .slice e2 n2 f2] 28))
      have R2 := Lib.hid (R2.out.alloc (.cells #[.slice e1 n1 f1, .slice e2 n2 f2] 28))
      have RB := Lib.hid (RB.out.alloc (.cells #[.slice e1 n1 f1, .slice e2 n2 f2] 28))
      have RE := Lib.hid (RE.out.alloc (.cells #[.slice e1 n1 f1, .slice e2 n2 f2] 28))
      have U1 := Lib.hid (RU.out.1.alloc (.cells #[.slice e1 n1 f1, .slice e2 n2 f2] 28))
      have U2 := Lib.hid (RU.out.2.alloc (.cells #[.slice e1 n1 f1, .slice e2 n2 f2] 28))
      go_wp2_with fail
      generalize w5.alloc (.cells #[.slice e1 n1 f1, .slice e2 n2 f2] 28) = W6 at *
      go_loopw [19] (fun i wr => ∃ j : Nat, j ≤ n3 ∧ i = .int .i64 j ∧ Hid (Below W6.heap.size W6 wr)) (fun i _ => n3 - (intOf i).toNat)
      case atStart => exact ⟨0, by omega, rfl, Lib.hid (Below.refl _ _)⟩
      case round =>
        obtain ⟨j, hj, rfl, HB⟩ := hrel
        by_cases h : j < n3
        · obtain ⟨k, hk⟩ : ∃ k : Nat, (n3 : Int) - 1 - j = (k : Int) := ⟨n3 - 1 - j, by omega⟩
          have hkn : k < n3 := by omega
          obtain ⟨g4, f4, rfl, -, c4'⟩ := (RE.out.below HB.out).at_ h
          obtain ⟨g5, f5, rfl, -, c5'⟩ := (RB.out.below HB.out).at_ hkn
          have hbn := HN3.out
          rw [ordZ_get _ j (by rw [List.length_reverse]; omega), List.getElem_reverse] at c4'
          rw [ordZ_get _ k (by omega)] at c5'
          have hkk : bb.length - 1 - j = k := by omega
          simp only [hkk] at c4'
          generalize bb[k] = y at c4' c5'
          have hself : ((y : Int) != (y : Int)) = false := by simp
          clear hkk hbn
          go_wp2_with fail
          go_quiet (fail)
          go_wp2_with fail
          go_roundw
          case rel => exact ⟨j + 1, by omega, by go_num, Lib.hid (bDrewN HB.out _)⟩
          case measure => simp [intOf]; omega
        · obtain ⟨y1, y2, -, y4, -⟩ := (BX.out.below HB.out).cells
          obtain ⟨z1, z2, -, z4, -⟩ := (BU.out.below HB.out).cells
          have HNU := Lib.hid (numbers_self e1 a1 n1 f1 n1 c1 (ordZ u.ld) wr (U1.out.below HB.out) (R1.out.below HB.out) (by omega) (by omega))
          go_wp2_with fail
          refine HNU.out.mono ?_; rintro e w7 ⟨rfl, hb7⟩
          have HB7 := Lib.hid (bTrans HB.out hb7)
          have HNV := Lib.hid (numbers_self e2 a2 n2 f2 n2 c2 (ordZ u.op) w7 (U2.out.below HB7.out) (R2.out.below HB7.out) (by omega) (by omega))
          clear hb7 y1 y2 y4 z1 z2 z4
          obtain ⟨y1, y2, -, y4, -⟩ := (BX.out.below HB7.out).cells
          obtain ⟨z1, z2, -, z4, -⟩ := (BU.out.below HB7.out).cells
          go_wp2_with fail
          refine HNV.out.mono ?_; rintro e w8 ⟨rfl, hb8⟩
          have HB8 := Lib.hid (bTrans (bTrans B6.out HB7.out) hb8)
          clear hb8
          go_wp2_with fail
          go_ret
          exact ⟨rfl, HB8.out⟩
    · rcases hR with ⟨-, rfl, rfl, rfl⟩ | ⟨p, b0, -, -, -, rfl⟩
      · unfold RdSt at RT
        rw [HN1.out, HN2.out] at RT ⊢
        obtain ⟨y1, y2, -, y4, -⟩ := BX.out.cells
        have HNU := Lib.hid (numbers_self b1 a1 n1 d1 n1 c1 (ordZ t.ld) _ (RT.out.1.alloc (.cells #[.slice b1 n1 d1, .slice b2 n2 d2] 28)) (R1.out.alloc _) (by omega) (by omega))
        have hd0 : ((130 : Int) != 0) = true := by decide
        go_wp2_with fail
        refine HNU.out.mono ?_; rintro e w5 ⟨rfl, hb5⟩
        have BT := Lib.hid ((BoxS.new w4 (.slice b1 n1 d1) (.slice b2 n2 d2) 28).below hb5)
        have BX := Lib.hid ((BX.out.below (bAlloc (Below.refl _ _) _)).below hb5)
        have B5 := Lib.hid (bTrans (bAlloc B4.out _) hb5)
        have HNV := Lib.hid (numbers_self b2 a2 n2 d2 n2 c2 (ordZ t.op) w5 ((RT.out.2.alloc _).below hb5) ((R2.out.alloc _).below hb5) (by omega) (by omega))
        clear hb5 y1 y2 y4
        obtain ⟨y1, y2, -, y4, -⟩ := BX.out.cells
        obtain ⟨z1, z2, -, z4, -⟩ := BT.out.cells
        go_wp2_with fail
        refine HNV.out.mono ?_; rintro e w6 ⟨rfl, hb6⟩
        have B6 := Lib.hid (bTrans B5.out hb6)
        clear hb6
        go_wp2_with fail
        go_ret
        exact ⟨rfl, B6.out⟩
      · exact absurd rfl hx
theorem DlBack_walk (a : Option Addr) (l : List Obj) (c : Nat) (root : List UInt8) (b : Option Addr) (ops : List (Bool × List UInt8)) (d : Nat) (name : List UInt8) (w : World) (hl : RdO w a l) (hn : (∀ o ∈ l, o.name.length ≤ maxLen ∧ ∀ n ∈ o.needs, n.length ≤ maxLen) ∧ ∀ o ∈ l, o.needs.length ≤ maxLen) (hm : l.length ≤ maxLen) (hroot : root.length ≤ maxLen) (hp : RdP w b ops) (hpm : ∀ o ∈ ops, o.2.length ≤ maxLen) (hpl : ops.length ≤ maxLen) (hname : name.length ≤ maxLen) :
    Calls Try.prog 5 #[.slice a l.length c, .string ⟨root.toArray⟩, .slice b ops.length d, .string ⟨name.toArray⟩] w fun e w' => e = .returned (.bool true) ∧ Below w.heap.size w w' := by
  by_cases hs : shortB l 12 = true
  · by_cases h40 : ops.length ≤ 30
    · obtain ⟨hnm, hm12⟩ := short_named hs hn.1
      exact back_yes a l c root b ops d name w hl hs hnm hm12 hroot hp h40 hpm hname
    · exact back_no a l c root b ops d name w hl hn.2 hm hpl (Or.inr (by omega))
  · exact back_no a l c root b ops d name w hl hn.2 hm hpl (Or.inl ((Bool.not_eq_true _).mp hs))
end Go.Proofs.Ytfneikphgmjfbaa
