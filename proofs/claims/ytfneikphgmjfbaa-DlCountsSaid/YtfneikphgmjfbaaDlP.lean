/- DlNeeded: its walk. -/
import Derived.Test.YtfneikphgmjfbaaDlO
namespace Go.Proofs.Ytfneikphgmjfbaa
set_option linter.unusedVariables false
set_option linter.unusedSimpArgs false
open Go.Joins Go.ChangeShapes Go.WideShapes Go.ChangeAt Go.RowKit Go.Deep

theorem ordR {l : List Obj} {o : List Nat} (h1 : o.Nodup) (h2 : ∀ k ∈ o, k < l.length) : rightB (ordZ o) l.length = true := by
  unfold rightB
  refine decide_eq_true ⟨fun x hx => ?_, ?_⟩
  · simp only [ordZ, List.mem_map] at hx
    obtain ⟨k, hk, rfl⟩ := hx
    have := h2 k hk
    omega
  · unfold ordZ
    exact List.Pairwise.map _ (fun a b hab e => hab (by omega)) h1
theorem fidx_name {l : List Obj} {name : List UInt8} {k : Nat} (h : fidx l name = some k) : ∃ hk : k < l.length, l[k].name = name := by
  unfold fidx at h
  rw [List.findIdx?_eq_some_iff_getElem] at h
  obtain ⟨hk, h1, -⟩ := h
  exact ⟨hk, by simpa using h1⟩
theorem contains_need {l : List Obj} {root : List UInt8} {s : St} (h : Good l root s) (k : Nat) : s.ld.contains k = needP l s.op k := by
  rw [Bool.eq_iff_iff, List.contains_iff_mem, needP_iff, h.mem]
set_option maxHeartbeats 1000000 in
theorem needed_no (a : Option Addr) (l : List Obj) (c : Nat) (root : List UInt8) (b : Option Addr) (ops : List (Bool × List UInt8)) (d : Nat) (w : World) (hl : RdO w a l) (hnd : ∀ o ∈ l, o.needs.length ≤ maxLen) (hm : l.length ≤ maxLen) (hpm : ops.length ≤ maxLen) (h : shortB l 12 = false ∨ 40 < ops.length) :
    Calls Try.prog 4 #[.slice a l.length c, .string ⟨root.toArray⟩, .slice b ops.length d] w fun e w' => e = .returned (.bool true) ∧ Below w.heap.size w w' := by
  have HL := Lib.hid hl
  have HSH := Lib.hid (fun W (hW : RdO W a l) => short_any a l c 12 W hW hm (by omega) hnd)
  obtain ⟨sh, hsh⟩ : ∃ sh, shortB l 12 = sh := ⟨_, rfl⟩
  rw [hsh] at HSH h
  clear hl hnd hm hsh
  unfold maxLen at hpm
  obtain ⟨m, hlm⟩ : ∃ m, l.length = m := ⟨_, rfl⟩
  obtain ⟨n, hn⟩ : ∃ n, ops.length = n := ⟨_, rfl⟩
  rw [hlm] at HSH ⊢
  rw [hn] at h hpm ⊢
  clear hlm hn
  go_enter Try.func4, Try.ntmps4
  go_wp2_with fail
  refine (dawake_any _).mono ?_; rintro e w1 ⟨rfl, hb1⟩
  have B1 := Lib.hid hb1
  clear hb1
  go_wp2_with fail
  refine (HSH.out _ (HL.out.below B1.out)).mono ?_; rintro e w2 ⟨rfl, rfl⟩
  cases sh with
  | false =>
    clear h
    go_wp2_with fail
    go_ret
    exact ⟨rfl, B1.out⟩
  | true =>
    have h40 : 40 < n := by rcases h with h | h; cases h; exact h
    have d40 : decide ((40 : Int) < (n : Int)) = true := decide_eq_true (by omega)
    clear h
    go_wp2_with fail
    go_ret
    exact ⟨rfl, B1.out⟩
set_option maxRecDepth 100000 in
set_option maxHeartbeats 4000000 in
theorem needed_yes (a : Option Addr) (l : List Obj) (c : Nat) (root : List UInt8) (b : Option Addr) (ops : List (Bool × List UInt8)) (d : Nat) (w : World) (hl : RdO w a l) (hs : shortB l 12 = true) (hnm : Named l) (hm : l.length ≤ 12) (hroot : root.length ≤ maxLen) (hp : RdP w b ops) (hpn : ops.length ≤ 40) (hpm : ∀ o ∈ ops, o.2.length ≤ maxLen) :
    Calls Try.prog 4 #[.slice a l.length c, .string ⟨root.toArray⟩, .slice b ops.length d] w fun e w' => e = .returned (.bool true) ∧ Below w.heap.size w w' := by
  have HL := Lib.hid hl
  have HSH := Lib.hid (fun W (hW : RdO W a l) => short_any a l c 12 W hW (by unfold maxLen; omega) (by omega) (fun o ho => by have := (hnm o ho).2.1; unfold maxLen; omega))
  have HMD := Lib.hid (fun W (hW : RdO W a l) (hP : RdP W b ops) => made_any a l c root b ops d W hW (by omega) hnm hroot hP (by omega) hpm)
  have HRI := Lib.hid (fun b (z : List Int) q d W (hV : Rd W b q (i64s z)) (hq : q ≤ 1000) => right_any b z q d l.length W hV (by omega) (by omega))
  have HND := Lib.hid (fun b (op : List Nat) d k W (hW : RdO W a l) (hV : Rd W b op.length (i64s (ordZ op))) (hop : ∀ k ∈ op, k < l.length) (hon : op.length ≤ 1000) => rneeded_any a l c b op d k W hW (by omega) hnm hV hop (by omega))
  have HP := Lib.hid hp
  have HNM := Lib.hid hnm
  rw [hs] at HSH
  clear hl hs hp hpm hnm
  obtain ⟨m, hlm⟩ : ∃ m, l.length = m := ⟨_, rfl⟩
  obtain ⟨n, hn⟩ : ∃ n, ops.length = n := ⟨_, rfl⟩
  rw [hlm] at hm HSH HMD HRI HND ⊢
  rw [hn] at hpn HMD ⊢
  have HLM := Lib.hid hlm
  have d40 : decide ((40 : Int) < (n : Int)) = false := decide_eq_false (by omega)
  clear hlm hn
  go_enter Try.func4, Try.ntmps4
  go_wp2_with fail
  refine (dawake_any _).mono ?_; rintro e w1 ⟨rfl, hb1⟩
  have B1 := Lib.hid hb1
  clear hb1
  go_wp2_with fail
  refine (HSH.out _ (HL.out.below B1.out)).mono ?_; rintro e w2 ⟨rfl, rfl⟩
  go_wp2_with fail
  clear d40
  refine (HMD.out _ (HL.out.below B1.out) (HP.out.below B1.out)).mono ?_; rintro e w3 ⟨a1, c1, a2, c2, s, ok, rfl, hok, hrd, hb3⟩
  have B3 := Lib.hid (bTrans B1.out hb3)
  cases ok with
  | false =>
    clear hok hrd hb3
    go_wp2_with fail
    go_ret
    exact ⟨rfl, bAlloc B3.out _⟩
  | true =>
    rw [if_pos rfl] at hok
    obtain ⟨hG, hgl⟩ := hok
    have HG := Lib.hid hG
    have hld := hG.le
    obtain ⟨r0, t0, hop0, hfr⟩ := hG.head
    obtain ⟨hr0l, hr0n⟩ := fidx_name hfr
    have HRB := Lib.hid (ordR (l := l) hG.nd hG.ldl)
    have HCN := Lib.hid (fun k => contains_need hG k)
    have HND1 := Lib.hid (fun k W (hW : RdO W a l) (hV : Rd W a2 s.op.length (i64s (ordZ s.op))) => HND.out a2 s.op c2 k W hW hV (fun q hq => by rw [← HLM.out]; exact hG.opl q hq) (by omega))
    have hopos : 0 < s.op.length := by rw [hop0]; simp
    have hg0 := ordZ_get s.op 0 hopos
    rw [show s.op[0] = r0 by simp [hop0]] at hg0
    have HG0 := Lib.hid hg0
    have HR0N := Lib.hid hr0n
    have HOPL := Lib.hid hG.opl
    rw [HLM.out] at hld HRB
    have RD := Lib.hid hrd
    unfold RdSt at RD
    clear hG hrd hb3 hg0 hop0 hfr hr0n
    obtain ⟨n1, hn1⟩ : ∃ n, s.ld.length = n := ⟨_, rfl⟩
    obtain ⟨n2, hn2⟩ : ∃ n, s.op.length = n := ⟨_, rfl⟩
    rw [hn1] at hld RD ⊢
    rw [hn2] at hgl hopos HND1 RD ⊢
    have HN2 := Lib.hid hn2
    clear hn1 hn2
    have R1 := Lib.hid (RD.out.1.alloc (.cells #[.slice a1 n1 c1, .slice a2 n2 c2] 28))
    have R2 := Lib.hid (RD.out.2.alloc (.cells #[.slice a1 n1 c1, .slice a2 n2 c2] 28))
    have HRI1 := Lib.hid (HRI.out a1 (ordZ s.ld) n1 c1 _ R1.out (by omega))
    rw [HRB.out] at HRI1
    go_wp2_with fail
    refine HRI1.out.mono ?_; rintro e w4 ⟨rfl, hb4⟩
    have BX := Lib.hid ((BoxS.new w3 (.slice a1 n1 c1) (.slice a2 n2 c2) 28).below hb4)
    have B4 := Lib.hid (bTrans (bAlloc B3.out _) hb4)
    have R1 := Lib.hid (R1.out.below hb4)
    have R2 := Lib.hid (R2.out.below hb4)
    obtain ⟨y1, y2, -, -, -⟩ := BX.out.cells
    have dn2 : decide ((n2 : Int) = 0) = false := decide_eq_false (by omega)
    have dn3 : ((n2 : Int) == 0) = false := beq_eq_false_iff_ne.2 (by omega)
    clear hb4 HRI1 RD
    go_wp2_with fail
    clear dn2 dn3
    go_loop [12] (fun i => ∃ k : Nat, k ≤ n2 ∧ i = .int .i64 k) (fun i => n2 - (intOf i).toNat)
    case atStart => exact ⟨0, by omega, rfl⟩
    case round =>
      obtain ⟨k, hk, rfl⟩ := hrel
      by_cases hlt : k < n2
      · have hkl : k < s.op.length := by rw [HN2.out]; exact hlt
        obtain ⟨g, off, rfl, -, hc⟩ := R2.out.at_ hlt
        rw [ordZ_get s.op k hkl] at hc
        have hxl := HOPL.out _ (List.getElem_mem hkl)
        generalize s.op[k] = x at hc hxl
        rw [HLM.out] at hxl
        have dx : decide (m ≤ x) = false := decide_eq_false (by omega)
        have dx2 : decide ((m : Int) ≤ (x : Int)) = false := decide_eq_false (by omega)
        go_wp2_with fail
        go_round
        case rel => exact ⟨k + 1, by omega, by go_num⟩
        case measure => simp [intOf]; omega
      · go_wp2_with fail
        go_loopw [13] (fun i wr => ∃ k : Nat, k ≤ m ∧ i = .int .i64 k ∧ Hid (Below w4.heap.size w4 wr)) (fun i _ => m - (intOf i).toNat)
        case atStart => exact ⟨0, by omega, rfl, Lib.hid (Below.refl _ _)⟩
        case round =>
          obtain ⟨k, hk, rfl, HB⟩ := hrel
          obtain ⟨y1, y2, -, -, -⟩ := (BX.out.below HB.out).cells
          by_cases hlt : k < m
          · have HHA := Lib.hid (has_any a1 (ordZ s.ld) n1 c1 (k : Int) wr (R1.out.below HB.out) (by omega))
            rw [ordZ_contains, HCN.out k] at HHA
            have HNE := Lib.hid (HND1.out k wr (HL.out.below (bTrans B4.out HB.out)) (R2.out.below HB.out))
            generalize needP l s.op k = q at HHA HNE
            go_wp2_with fail
            refine HHA.out.mono ?_; rintro e w5 ⟨rfl, rfl⟩
            go_wp2_with fail
            refine HNE.out.mono ?_; rintro e w6 ⟨rfl, hb6⟩
            have HB6 := Lib.hid (bTrans HB.out hb6)
            have hqq : (q != q) = false := by simp
            clear hb6
            go_wp2_with fail
            go_roundw
            case rel => exact ⟨k + 1, by omega, by go_num, HB6⟩
            case measure => simp [intOf]; omega
          · obtain ⟨g, off, rfl, -, hc⟩ := (R2.out.below HB.out).at_ hopos
            rw [HG0.out, Nat.add_zero] at hc
            obtain ⟨B, o, rfl, hcc⟩ := (HL.out.below (bTrans B4.out HB.out)).at_ hr0l
            obtain ⟨h0, -⟩ := hcc
            rw [HR0N.out] at h0
            have hr0m : r0 < m := by rw [← HLM.out]; exact hr0l
            have hfin := bTrans B4.out HB.out
            have HFIN := Lib.hid hfin
            clear hfin
            go_wp2_with fail
            go_ret
            exact ⟨ret_bool (by simp), HFIN.out⟩
theorem DlNeeded_walk (a : Option Addr) (l : List Obj) (c : Nat) (root : List UInt8) (b : Option Addr) (ops : List (Bool × List UInt8)) (d : Nat) (w : World) (hl : RdO w a l) (hn : (∀ o ∈ l, o.name.length ≤ maxLen ∧ ∀ n ∈ o.needs, n.length ≤ maxLen) ∧ ∀ o ∈ l, o.needs.length ≤ maxLen) (hm : l.length ≤ maxLen) (hroot : root.length ≤ maxLen) (hp : RdP w b ops) (hpm : ∀ o ∈ ops, o.2.length ≤ maxLen) (hpl : ops.length ≤ maxLen) :
    Calls Try.prog 4 #[.slice a l.length c, .string ⟨root.toArray⟩, .slice b ops.length d] w fun e w' => e = .returned (.bool true) ∧ Below w.heap.size w w' := by
  by_cases hs : shortB l 12 = true
  · by_cases h40 : ops.length ≤ 40
    · obtain ⟨hnm, hm12⟩ := short_named hs hn.1
      exact needed_yes a l c root b ops d w hl hs hnm hm12 hroot hp h40 hpm
    · exact needed_no a l c root b ops d w hl hn.2 hm hpl (Or.inr (by omega))
  · exact needed_no a l c root b ops d w hl hn.2 hm hpl (Or.inl ((Bool.not_eq_true _).mp hs))
end Go.Proofs.Ytfneikphgmjfbaa
