/- DlCounts: its walk. -/
import Derived.Test.YtfneikphgmjfbaaDlP
namespace Go.Proofs.Ytfneikphgmjfbaa
set_option linter.unusedVariables false
set_option linter.unusedSimpArgs false
open Go.Joins Go.ChangeShapes Go.WideShapes Go.ChangeAt Go.RowKit Go.Deep

/-- two boxes of states: the one that stays, the one that is written anew -/
structure CntAt (w wr : World) (P Q : Nat) (s t : St) (a1 : Option Addr) (n1 c1 : Nat) (a2 : Option Addr) (n2 c2 : Nat) (b1 : Option Addr) (m1 d1 : Nat) (b2 : Option Addr) (m2 d2 : Nat) : Prop where
  bs : BoxS wr P (.slice a1 n1 c1) (.slice a2 n2 c2)
  bt : BoxS wr Q (.slice b1 m1 d1) (.slice b2 m2 d2)
  ne : P < Q ∧ w.heap.size ≤ P
  n1 : s.ld.length = n1
  n2 : s.op.length = n2
  m1 : t.ld.length = m1
  m2 : t.op.length = m2
  rs : RdSt wr a1 a2 s
  rt : RdSt wr b1 b2 t
  bel : Below w.heap.size w wr
theorem CntAt.below {w wr w' : World} {P Q : Nat} {s t : St} {a1 a2 b1 b2 : Option Addr} {n1 c1 n2 c2 m1 d1 m2 d2 : Nat} (h : CntAt w wr P Q s t a1 n1 c1 a2 n2 c2 b1 m1 d1 b2 m2 d2) (hb : Below wr.heap.size wr w') : CntAt w w' P Q s t a1 n1 c1 a2 n2 c2 b1 m1 d1 b2 m2 d2 :=
  ⟨h.bs.below hb, h.bt.below hb, h.ne, h.n1, h.n2, h.m1, h.m2, h.rs.below hb, h.rt.below hb, bTrans h.bel hb⟩
theorem CntAt.put {w wr : World} {P Q : Nat} {s t u : St} {a1 a2 b1 b2 e1 e2 : Option Addr} {n1 c1 n2 c2 m1 d1 m2 d2 p1 f1 p2 f2 : Nat} (h : CntAt w wr P Q s t a1 n1 c1 a2 n2 c2 b1 m1 d1 b2 m2 d2) (h1 : u.ld.length = p1) (h2 : u.op.length = p2) (hr : RdSt wr e1 e2 u) :
    CntAt w ((wr.setCell ⟨Q, 0, none⟩ (.slice e1 p1 f1)).setCell ⟨Q, 1, none⟩ (.slice e2 p2 f2)) P Q s u a1 n1 c1 a2 n2 c2 e1 p1 f1 e2 p2 f2 := by
  have hne := h.ne
  exact ⟨(h.bs.other (by omega)).other (by omega), (h.bt.set0 _).set1 _, hne, h.n1, h.n2, h1, h2, h.rs.box2 h.bt, hr.box2 h.bt, (h.bel.setCell (by show w.heap.size ≤ Q; omega) _).setCell (by show w.heap.size ≤ Q; omega) _⟩
theorem rd_len {w : World} {a : Option Addr} {n m : Nat} {x : List Value} (h : Rd w a n x) (e : n = m) : Rd w a m x := e ▸ h
theorem Chain.ok {l : List Obj} {name : List UInt8} {s t : St} {i : Nat} (h : Chain l name s i t) (hi : 0 < i) (n : List UInt8) : closR l name ≠ .inr n := by
  cases h with
  | zero => exact absurd hi (by omega)
  | succ _ ho =>
    rcases ho with ⟨-, -, -, he⟩ | ⟨p, b0, ⟨o, m, hc, -⟩, -⟩
    · exact absurd he (by decide)
    · intro e; rw [hc] at e; cases e
set_option maxHeartbeats 1000000 in
theorem counts_no (a : Option Addr) (l : List Obj) (c : Nat) (root name : List UInt8) (times : Int) (w : World) (hl : RdO w a l) (hnd : ∀ o ∈ l, o.needs.length ≤ maxLen) (hm : l.length ≤ maxLen) (h : shortB l 12 = false ∨ times < 0 ∨ 10 < times) :
    Calls Try.prog 7 #[.slice a l.length c, .string ⟨root.toArray⟩, .string ⟨name.toArray⟩, .int .i64 times] w fun e w' => e = .returned (.bool true) ∧ Below w.heap.size w w' := by
  have HL := Lib.hid hl
  have HSH := Lib.hid (fun W (hW : RdO W a l) => short_any a l c 12 W hW hm (by omega) hnd)
  obtain ⟨sh, hsh⟩ : ∃ sh, shortB l 12 = sh := ⟨_, rfl⟩
  rw [hsh] at HSH h
  clear hl hnd hm hsh
  obtain ⟨m, hlm⟩ : ∃ m, l.length = m := ⟨_, rfl⟩
  rw [hlm] at HSH ⊢
  clear hlm
  go_enter Try.func7, Try.ntmps7
  go_wp2_with fail
  refine (dawake_any _).mono ?_; rintro e w1 ⟨rfl, hb1⟩
  have B1 := Lib.hid hb1
  clear hb1
  go_wp2_with fail
  refine (HSH.out _ (HL.out.below B1.out)).mono ?_; rintro e w2 ⟨rfl, rfl⟩
  cases sh with
  | false =>
    clear h
    go_wp2_with fail
    go_ret
    exact ⟨rfl, B1.out⟩
  | true =>
    have h40 : times < 0 ∨ 10 < times := by rcases h with h | h; cases h; exact h
    clear h
    by_cases h0 : times < 0
    · clear h40
      go_wp2_with fail
      go_ret
      exact ⟨rfl, B1.out⟩
    · have h10 : 10 < times := by omega
      clear h40
      go_wp2_with fail
      go_ret
      exact ⟨rfl, B1.out⟩
set_option maxRecDepth 100000 in
set_option maxHeartbeats 8000000 in
theorem counts_yes (a : Option Addr) (l : List Obj) (c : Nat) (root name : List UInt8) (tn : Nat) (w : World) (hl : RdO w a l) (hs : shortB l 12 = true) (hnm : Named l) (hm : l.length ≤ 12) (hroot : root.length ≤ maxLen) (hname : name.length ≤ maxLen) (htn : tn ≤ 10) :
    Calls Try.prog 7 #[.slice a l.length c, .string ⟨root.toArray⟩, .string ⟨name.toArray⟩, .int .i64 (tn : Int)] w fun e w' => e = .returned (.bool true) ∧ Below w.heap.size w w' := by
  have HL := Lib.hid hl
  have HSH := Lib.hid (fun W (hW : RdO W a l) => short_any a l c 12 W hW (by unfold maxLen; omega) (by omega) (fun o ho => by have := (hnm o ho).2.1; unfold maxLen; omega))
  have HBG := Lib.hid (fun W (hW : RdO W a l) => begun_any a l c root W hW (by omega) hnm hroot)
  have HFI := Lib.hid (fun W (hW : RdO W a l) => rfind_any a l c name W hW (by omega))
  have HOP := Lib.hid (fun a1 a2 c1 c2 (s : St) nm W (hW : RdO W a l) (hs : RdSt W a1 a2 s) (hn1 : s.ld.length ≤ 1000) (hn2 : s.op.length ≤ 100) (hnl : nm.length ≤ maxLen) => open_any a l c a1 a2 c1 c2 s nm W hW (by omega) hnm hs hn1 (by omega) hnl)
  have HCL := Lib.hid (fun a1 a2 c1 c2 (s : St) nm W (hW : RdO W a l) (hs : RdSt W a1 a2 s) (hn1 : s.ld.length ≤ 1000) (hn2 : s.op.length ≤ 100) (hop : ∀ k ∈ s.op, k < l.length) => close_any a l c a1 a2 c1 c2 s nm W hW (by omega) hnm hs hn1 hn2 hop)
  rw [hs] at HSH
  clear hl hs hnm
  obtain ⟨m, hlm⟩ : ∃ m, l.length = m := ⟨_, rfl⟩
  rw [hlm] at hm ⊢
  simp only [hlm] at HSH HBG HFI HOP HCL
  have HLM := Lib.hid hlm
  have d0 : decide ((tn : Int) < 0) = false := decide_eq_false (by omega)
  have d10 : decide ((10 : Int) < (tn : Int)) = false := decide_eq_false (by omega)
  clear hlm
  go_enter Try.func7, Try.ntmps7
  go_wp2_with fail
  refine (dawake_any _).mono ?_; rintro e w1 ⟨rfl, hb1⟩
  have B1 := Lib.hid hb1
  clear hb1
  go_wp2_with fail
  refine (HSH.out _ (HL.out.below B1.out)).mono ?_; rintro e w2 ⟨rfl, rfl⟩
  go_wp2_with fail
  clear d0 d10
  refine (HBG.out _ (HL.out.below B1.out)).mono ?_; rintro e w3 ⟨a1, c1, a2, c2, s, bb, x, rfl, hO, hrd, hb3⟩
  have B3 := Lib.hid (bTrans B1.out hb3)
  rcases hO with ⟨-, rfl, rfl, rfl⟩ | ⟨p, b0, hB, rfl, rfl, rfl⟩
  · have hd0 : ((130 : Int) != 0) = true := by decide
    clear hrd hb3
    simp only [List.length_nil]
    go_wp2_with fail
    refine (HFI.out _ (HL.out.below (bAlloc B3.out _))).mono ?_; rintro e w4 ⟨rfl, rfl⟩
    go_wp2_with fail
    go_ret
    exact ⟨rfl, bAlloc B3.out _⟩
  · have hbf : b0.filter (fun k => !([] : List Nat).contains k) = b0 := filter_all fun k _ => by simp
    simp only [hbf, List.nil_append] at hrd ⊢
    have HG := Lib.hid (Good.begun hB)
    obtain ⟨s, hsx⟩ : ∃ s : St, s = ⟨b0, [p]⟩ := ⟨_, rfl⟩
    have HSX := Lib.hid hsx
    have hop1 : s.op.length = 1 := by rw [hsx]; rfl
    rw [show (St.mk b0 [p]) = s from hsx.symm] at hrd HG
    rw [show b0.length = s.ld.length by rw [hsx], show ([p] : List Nat).length = s.op.length by rw [hsx]]
    clear hbf hb3 hB hsx
    have hld := HG.out.le
    rw [HLM.out] at hld
    obtain ⟨n1, hn1⟩ : ∃ n, s.ld.length = n := ⟨_, rfl⟩
    rw [hn1] at hld
    rw [hn1, hop1]
    have HN1 := Lib.hid hn1
    have HOP1 := Lib.hid hop1
    have HRD := Lib.hid hrd
    clear hn1 hop1 hrd
    go_wp2_with fail
    refine (HFI.out _ (HL.out.below (bAlloc B3.out _))).mono ?_; rintro e w4 ⟨rfl, rfl⟩
    cases hf : fidx l name with
    | none =>
      rw [findO_none hf]
      go_wp2_with fail
      go_ret
      exact ⟨rfl, bAlloc B3.out _⟩
    | some q =>
      rw [findO_some hf]
      have HF := Lib.hid hf
      have hqd : decide ((q : Int) < 0) = false := decide_eq_false (by omega)
      have HC0 := count_any a1 a2 n1 c1 c2 s.op q (w3.alloc (.cells #[.slice a1 n1 c1, .slice a2 1 c2] 28)) (HRD.out.2.alloc _) (by rw [HOP1.out]; omega)
      rw [HOP1.out] at HC0
      have HC0 := Lib.hid HC0
      have hcl : s.op.count q ≤ 1 := by have := List.count_le_length (a := q) (l := s.op); rw [HOP1.out] at this; exact this
      obtain ⟨cn, hcn⟩ : ∃ cn, s.op.count q = cn := ⟨_, rfl⟩
      rw [hcn] at HC0 hcl
      have HCN := Lib.hid hcn
      clear hf hcn
      go_wp2_with fail
      refine HC0.out.mono ?_; rintro e w4 ⟨rfl, hb4⟩
      have BS := Lib.hid ((BoxS.new w3 (.slice a1 n1 c1) (.slice a2 1 c2) 28).below hb4)
      obtain ⟨y1, y2, -, y4, -⟩ := BS.out.cells
      have HM0 := Lib.hid (show CntAt w3 (w4.alloc (.cells #[.slice a1 n1 c1, .slice a2 1 c2] 28)) w3.heap.size w4.heap.size s s a1 n1 c1 a2 1 c2 a1 n1 c1 a2 1 c2 from ⟨BS.out.below (bAlloc (Below.refl _ _) _), BoxS.new _ _ _ _, ⟨y4, Nat.le_refl _⟩, HN1.out, HOP1.out, HN1.out, HOP1.out, ((HRD.out.below (bAlloc (Below.refl _ _) _)).below hb4).below (bAlloc (Below.refl _ _) _), ((HRD.out.below (bAlloc (Below.refl _ _) _)).below hb4).below (bAlloc (Below.refl _ _) _), bAlloc (bTrans (bAlloc (Below.refl _ _) _) hb4) _⟩)
      clear hb4 HC0 hqd
      go_wp2_with fail
      clear y1 y2 y4
      go_loopw [16] (fun i wr => ∃ (k : Nat) (t : St) (b1 : Option Addr) (m1 d1 : Nat) (b2 : Option Addr) (m2 d2 : Nat), i = .int .i64 k ∧ k ≤ tn ∧ Hid (Chain l name s k t) ∧ Hid (CntAt w3 wr w3.heap.size w4.heap.size s t a1 n1 c1 a2 1 c2 b1 m1 d1 b2 m2 d2)) (fun i _ => tn - (intOf i).toNat)
      case atStart => exact ⟨0, s, a1, n1, c1, a2, 1, c2, rfl, by omega, Lib.hid .zero, HM0⟩
      case round =>
        obtain ⟨k, t, b1, m1, d1, b2, m2, d2, rfl, hk, HCH, HM⟩ := hrel
        clear HM0
        obtain ⟨y1, y2, y3, y4, -⟩ := HM.out.bt.cells
        have y5 := y3 0
        have y6 := y3 1
        clear y3
        have hgt := HCH.out.good HG.out
        have hl1 := hgt.le
        rw [HM.out.m1, HLM.out] at hl1
        have hl2 := (HCH.out.count HF.out).2.1
        rw [HM.out.m2, HOP1.out] at hl2
        have HGT := Lib.hid hgt
        clear hgt
        by_cases hlt : k < tn
        · have HO := HOP.out b1 b2 d1 d2 t name wr ((HL.out.below B3.out).below HM.out.bel) HM.out.rt (by rw [HM.out.m1]; omega) (by rw [HM.out.m2]; omega) hname
          rw [HM.out.m1, HM.out.m2] at HO
          have HO := Lib.hid HO
          clear hl2
          go_wp2_with fail
          refine HO.out.mono ?_; rintro e w5 ⟨e1, f1, e2, f2, e3, f3, u, bb, x, rfl, hR, hrd5, -, hb5⟩
          by_cases hx : x = 0
          · subst hx
            have hch := Chain.succ HCH.out hR
            have hcu := (hch.count HF.out)
            rw [HCN.out, HOP1.out] at hcu
            have HCH2 := Lib.hid hch
            have HM5 := Lib.hid (HM.out.below hb5)
            have BU := Lib.hid (BoxS.new w5 (.slice e1 u.ld.length f1) (.slice e2 u.op.length f2) 28)
            have RU := Lib.hid (hrd5.below (bAlloc (Below.refl _ _) (.cells #[.slice e1 u.ld.length f1, .slice e2 u.op.length f2] 28)))
            have HCU := count_any e1 e2 u.ld.length f1 f2 u.op q _ RU.out.2 (by omega)
            obtain ⟨cu, hcu2⟩ : ∃ cu, u.op.count q = cu := ⟨_, rfl⟩
            rw [hcu2] at HCU hcu
            obtain ⟨p1, hp1⟩ : ∃ n, u.ld.length = n := ⟨_, rfl⟩
            obtain ⟨p2, hp2⟩ : ∃ n, u.op.length = n := ⟨_, rfl⟩
            rw [hp1, hp2] at HCU BU RU ⊢
            have HCU := Lib.hid HCU
            have HP1 := Lib.hid hp1
            have HP2 := Lib.hid hp2
            have hs : ((cu : Int) != (cn : Int) + (k : Int) + 1) = false := bne_eq_false_iff_eq.2 (by have := hcu.1; omega)
            clear hR hch hcu hcu2 hp1 hp2 hrd5 hb5 y1 y2 y4 y5 y6
            go_wp2_with fail
            refine HCU.out.mono ?_; rintro e w6 ⟨rfl, hb6⟩
            have HM6 := Lib.hid ((HM5.out.below (bAlloc (Below.refl _ _) _)).below hb6)
            have BU := Lib.hid (BU.out.below hb6)
            have RU := Lib.hid (RU.out.below hb6)
            obtain ⟨y1, y2, y3, y4, -⟩ := HM6.out.bt.cells
            have y5 := y3 0
            have y6 := y3 1
            obtain ⟨z1, z2, -, z4, -⟩ := BU.out.cells
            clear y3 hb6
            go_wp2_with fail
            go_roundw
            case rel => exact ⟨k + 1, u, e1, p1, f1, e2, p2, f2, by go_num, by omega, HCH2, Lib.hid (HM6.out.put HP1.out HP2.out RU.out)⟩
            case measure => simp [intOf]; omega
          · rcases hR with ⟨⟨nn, hnn⟩, rfl, rfl, rfl⟩ | ⟨p, b0, -, -, -, rfl⟩
            · have hk0 : k = 0 := by
                rcases Nat.eq_zero_or_pos k with h | h
                · exact h
                · exact absurd hnn (HCH.out.ok h nn)
              subst hk0
              have HB5 := Lib.hid (bAlloc (bTrans (bTrans B3.out HM.out.bel) hb5) (.cells #[.slice e1 u.ld.length f1, .slice e2 u.op.length f2] 28))
              have hd0 : ((130 : Int) != 0) = true := by decide
              clear hnn hrd5 hb5
              go_wp2_with fail
              go_ret
              exact ⟨ret_bool (by simp), HB5.out⟩
            · exact absurd rfl hx
        · obtain rfl : k = tn := by omega
          clear hl1 hl2 y1 y2 y4 y5 y6
          go_wp2_with fail
          go_loopw [21] (fun i wr => ∃ (k : Nat) (t : St) (b1 : Option Addr) (m1 d1 : Nat) (b2 : Option Addr) (m2 d2 : Nat), i = .int .i64 k ∧ k ≤ 10 ∧ Hid (Chain l name s k t) ∧ Hid (CntAt w3 wr w3.heap.size w4.heap.size s t a1 n1 c1 a2 1 c2 b1 m1 d1 b2 m2 d2)) (fun i _ => (intOf i).toNat)
          case atStart => exact ⟨k, t, b1, m1, d1, b2, m2, d2, rfl, by omega, HCH, HM⟩
          case round =>
            clear HCH HM HGT
            obtain ⟨k, t, b1, m1, d1, b2, m2, d2, rfl, hk2, HCH, HM⟩ := hrel
            obtain ⟨y1, y2, y3, y4, -⟩ := HM.out.bt.cells
            have y5 := y3 0
            have y6 := y3 1
            clear y3
            have hgt := HCH.out.good HG.out
            have hl1 := hgt.le
            rw [HM.out.m1, HLM.out] at hl1
            have hcc := (HCH.out.count HF.out).2
            rw [HM.out.m2, HOP1.out] at hcc
            have HGT := Lib.hid hgt
            have HC := HCL.out b1 b2 d1 d2 t name wr ((HL.out.below B3.out).below HM.out.bel) HM.out.rt (by rw [HM.out.m1]; omega) (by rw [HM.out.m2]; omega) (fun z hz => by rw [← HLM.out]; exact HGT.out.opl z hz)
            rw [HM.out.m1, HM.out.m2] at HC
            have HC := Lib.hid HC
            clear hgt
            rcases Nat.eq_zero_or_pos k with hk0 | hk0
            · subst hk0
              obtain rfl : t = s := by
                have := HCH.out
                cases this
                rfl
              have hop2 : t.op = [p] := by rw [HSX.out]
              have HOPX := Lib.hid hop2
              have hmm2 := HM.out.m2
              rw [HOP1.out] at hmm2
              subst hmm2
              have hmm1 := HM.out.m1
              rw [HN1.out] at hmm1
              subst hmm1
              clear hop2 hcc
              go_wp2_with fail
              refine HC.out.mono ?_; rintro e w5 ⟨e1, f1, e2, f2, e3, f3, u, bb, x, rfl, hR, hrd5, -, hb5⟩
              obtain ⟨rfl, rfl, rfl⟩ := close_one HOPX.out hR
              have HM5 := Lib.hid ((HM.out.below hb5).below (bAlloc (Below.refl _ _) (.cells #[.slice e1 u.ld.length f1, .slice e2 u.op.length f2] 28)))
              have HNU := numbers_self b1 a1 n1 d1 n1 c1 (ordZ u.ld) _ (rd_len HM5.out.rt.1 HN1.out) (rd_len HM5.out.rs.1 HN1.out) (by omega) (by omega)
              have HNU := Lib.hid HNU
              clear hR hrd5 hb5 y1 y2 y4 y5 y6
              have hz5 := size_alloc w5 (.cells #[.slice e1 u.ld.length f1, .slice e2 u.op.length f2] 28)
              clear hz5
              obtain ⟨y1, y2, -, y4, -⟩ := HM5.out.bt.cells
              obtain ⟨z1, z2, -, z4, -⟩ := HM5.out.bs.cells
              have hd0 : ((210 : Int) == 210) = true := by decide
              go_wp2_with fail
              refine HNU.out.mono ?_; rintro e w6 ⟨rfl, hb6⟩
              have HM6 := Lib.hid (HM5.out.below hb6)
              have HNV := numbers_self b2 a2 1 d2 1 c2 (ordZ u.op) w6 (rd_len HM6.out.rt.2 HOP1.out) (rd_len HM6.out.rs.2 HOP1.out) (by omega) (by omega)
              have HNV := Lib.hid HNV
              clear hb6 y1 y2 y4 z1 z2 z4
              obtain ⟨y1, y2, -, y4, -⟩ := HM6.out.bt.cells
              obtain ⟨z1, z2, -, z4, -⟩ := HM6.out.bs.cells
              go_wp2_with fail
              refine HNV.out.mono ?_; rintro e w7 ⟨rfl, hb7⟩
              have HB7 := Lib.hid (bTrans (bTrans B3.out HM6.out.bel) hb7)
              clear hb7
              go_wp2_with fail
              go_ret
              exact ⟨rfl, HB7.out⟩
            · obtain ⟨j, rfl⟩ : ∃ j, k = j + 1 := ⟨k - 1, by omega⟩
              have hin : t.ld.contains q = true := List.contains_iff_mem.2 (RE.self_mem HGT.out (hcc.2 hk0))
              have HHA := has_any b1 (ordZ t.ld) m1 d1 (q : Int) wr (by have := HM.out.rt.1; rw [HM.out.m1] at this; exact this) (by omega)
              rw [ordZ_contains, hin] at HHA
              have HHA := Lib.hid HHA
              clear hin hcc
              go_wp2_with fail
              refine HHA.out.mono ?_; rintro e w5' ⟨rfl, rfl⟩
              go_wp2_with fail
              refine HC.out.mono ?_; rintro e w5 ⟨e1, f1, e2, f2, e3, f3, u, bb, x, rfl, hR, hrd5, -, hb5⟩
              obtain ⟨hch, rfl⟩ := HCH.out.close HG.out hR
              have HCH2 := Lib.hid hch
              have HM5 := Lib.hid (HM.out.below hb5)
              have RU := Lib.hid hrd5
              obtain ⟨p1, hp1⟩ : ∃ n, u.ld.length = n := ⟨_, rfl⟩
              obtain ⟨p2, hp2⟩ : ∃ n, u.op.length = n := ⟨_, rfl⟩
              rw [hp1, hp2]
              have HP1 := Lib.hid hp1
              have HP2 := Lib.hid hp2
              clear hR hch hp1 hp2 hrd5 hb5 y1 y2 y4 y5 y6
              obtain ⟨y1, y2, y3, y4, -⟩ := HM5.out.bt.cells
              have y5 := y3 0
              have y6 := y3 1
              clear y3
              go_wp2_with fail
              go_roundw
              case rel => exact ⟨j, u, e1, p1, f1, e2, p2, f2, by go_num, by omega, HCH2, Lib.hid ((HM5.out.put HP1.out HP2.out RU.out).below (bAlloc (Below.refl _ _) _))⟩
              case measure => simp [intOf] <;> omega
theorem DlCounts_walk (a : Option Addr) (l : List Obj) (c : Nat) (root name : List UInt8) (times : Int) (w : World) (hl : RdO w a l) (hn : (∀ o ∈ l, o.name.length ≤ maxLen ∧ ∀ n ∈ o.needs, n.length ≤ maxLen) ∧ ∀ o ∈ l, o.needs.length ≤ maxLen) (hm : l.length ≤ maxLen) (hroot : root.length ≤ maxLen) (hname : name.length ≤ maxLen) :
    Calls Try.prog 7 #[.slice a l.length c, .string ⟨root.toArray⟩, .string ⟨name.toArray⟩, .int .i64 times] w fun e w' => e = .returned (.bool true) ∧ Below w.heap.size w w' := by
  by_cases hs : shortB l 12 = true
  · by_cases h : times < 0 ∨ 10 < times
    · exact counts_no a l c root name times w hl hn.2 hm (Or.inr h)
    · obtain ⟨tn, rfl⟩ := Int.eq_ofNat_of_zero_le (show 0 ≤ times by omega)
      obtain ⟨hnm, hm12⟩ := short_named hs hn.1
      exact counts_yes a l c root name tn w hl hs hnm hm12 hroot hname (by omega)
  · exact counts_no a l c root name times w hl hn.2 hm (Or.inl ((Bool.not_eq_true _).mp hs))
end Go.Proofs.Ytfneikphgmjfbaa
