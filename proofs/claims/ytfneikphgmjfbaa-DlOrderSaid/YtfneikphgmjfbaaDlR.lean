/- DlOrder: its walk. -/
import Derived.Test.YtfneikphgmjfbaaDlP
import Derived.Deep.RegionHeld3
namespace Go.Proofs.Ytfneikphgmjfbaa
set_option linter.unusedVariables false
set_option linter.unusedSimpArgs false
open Go.Joins Go.ChangeShapes Go.WideShapes Go.ChangeAt Go.RowKit Go.Deep

theorem len_of {l : List Obj} {o : List Nat} {x m : Nat} (h : o.Pairwise (· < ·)) (hm : ∀ k, k ∈ o ↔ RE l x k) (hx : x < l.length) (h12 : m ≤ 12) (hl : l.length = m) : o.length ≤ 9223372036854775807 := by
  have := nodup_le l.length o (h.imp fun {a b} h => by omega) fun k hk => by
    have hre := (hm k).1 hk
    cases hre with
    | refl => exact hx
    | step _ hj =>
      unfold needsI at hj
      obtain ⟨u, -, hu⟩ := List.mem_map.1 hj
      exact fidx_lt hu
  omega
set_option maxHeartbeats 1000000 in
theorem order_no (a : Option Addr) (l : List Obj) (c : Nat) (root : List UInt8) (b : Option Addr) (ops : List (Bool × List UInt8)) (d : Nat) (w : World) (hl : RdO w a l) (hnd : ∀ o ∈ l, o.needs.length ≤ maxLen) (hm : l.length ≤ maxLen) (hpm : ops.length ≤ maxLen) (h : shortB l 12 = false ∨ 30 < ops.length) :
    Calls Try.prog 6 #[.slice a l.length c, .string ⟨root.toArray⟩, .slice b ops.length d] w fun e w' => e = .returned (.bool true) ∧ Below w.heap.size w w' := by
  have HL := Lib.hid hl
  have HSH := Lib.hid (fun W (hW : RdO W a l) => short_any a l c 12 W hW hm (by omega) hnd)
  obtain ⟨sh, hsh⟩ : ∃ sh, shortB l 12 = sh := ⟨_, rfl⟩
  rw [hsh] at HSH h
  clear hl hnd hm hsh
  unfold maxLen at hpm
  obtain ⟨m, hlm⟩ : ∃ m, l.length = m := ⟨_, rfl⟩
  obtain ⟨n, hn⟩ : ∃ n, ops.length = n := ⟨_, rfl⟩
  rw [hlm] at HSH ⊢
  rw [hn] at h hpm ⊢
  clear hlm hn
  go_enter Try.func6, Try.ntmps6
  go_wp2_with fail
  refine (dawake_any _).mono ?_; rintro e w1 ⟨rfl, hb1⟩
  have B1 := Lib.hid hb1
  clear hb1
  go_wp2_with fail
  refine (HSH.out _ (HL.out.below B1.out)).mono ?_; rintro e w2 ⟨rfl, rfl⟩
  cases sh with
  | false =>
    clear h
    go_wp2_with fail
    go_ret
    exact ⟨rfl, B1.out⟩
  | true =>
    have h40 : 30 < n := by rcases h with h | h; cases h; exact h
    have d40 : decide ((30 : Int) < (n : Int)) = true := decide_eq_true (by omega)
    clear h
    go_wp2_with fail
    go_ret
    exact ⟨rfl, B1.out⟩
set_option maxRecDepth 100000 in
set_option maxHeartbeats 8000000 in
theorem order_yes (a : Option Addr) (l : List Obj) (c : Nat) (root : List UInt8) (b : Option Addr) (ops : List (Bool × List UInt8)) (d : Nat) (w : World) (hl : RdO w a l) (hs : shortB l 12 = true) (hnm : Named l) (hm : l.length ≤ 12) (hroot : root.length ≤ maxLen) (hp : RdP w b ops) (hpn : ops.length ≤ 30) (hpm : ∀ o ∈ ops, o.2.length ≤ maxLen) :
    Calls Try.prog 6 #[.slice a l.length c, .string ⟨root.toArray⟩, .slice b ops.length d] w fun e w' => e = .returned (.bool true) ∧ Below w.heap.size w w' := by
  have HL := Lib.hid hl
  have HSH := Lib.hid (fun W (hW : RdO W a l) => short_any a l c 12 W hW (by unfold maxLen; omega) (by omega) (fun o ho => by have := (hnm o ho).2.1; unfold maxLen; omega))
  have HMD := Lib.hid (fun W (hW : RdO W a l) (hP : RdP W b ops) => made_any a l c root b ops d W hW (by omega) hnm hroot hP (by omega) hpm)
  have HRI := Lib.hid (fun b (z : List Int) q d W (hV : Rd W b q (i64s z)) (hq : q ≤ 1000) => right_any b z q d l.length W hV (by omega) (by omega))
  have HND := Lib.hid (fun i j W (hW : RdO W a l) (hi : i < l.length) => needs_any a l c i j W hW (by omega) hnm hi)
  have HRE := Lib.hid (fun s W (hW : RdO W a l) (h : s < l.length) => rreach_any a l c s W hW (by omega) hnm h)
  have HP := Lib.hid hp
  have HNM := Lib.hid hnm
  rw [hs] at HSH
  clear hl hs hp hpm hnm
  have hm12 := hm
  obtain ⟨m, hlm⟩ : ∃ m, l.length = m := ⟨_, rfl⟩
  obtain ⟨n, hn⟩ : ∃ n, ops.length = n := ⟨_, rfl⟩
  rw [hlm] at hm ⊢
  simp only [hlm] at HSH HMD HRI HND HRE
  rw [hn] at hpn HMD ⊢
  have HLM := Lib.hid hlm
  have d40 : decide ((30 : Int) < (n : Int)) = false := decide_eq_false (by omega)
  clear hlm hn hm12
  go_enter Try.func6, Try.ntmps6
  go_wp2_with fail
  refine (dawake_any _).mono ?_; rintro e w1 ⟨rfl, hb1⟩
  have B1 := Lib.hid hb1
  clear hb1
  go_wp2_with fail
  refine (HSH.out _ (HL.out.below B1.out)).mono ?_; rintro e w2 ⟨rfl, rfl⟩
  go_wp2_with fail
  clear d40
  refine (HMD.out _ (HL.out.below B1.out) (HP.out.below B1.out)).mono ?_; rintro e w3 ⟨a1, c1, a2, c2, s, ok, rfl, hok, hrd, hb3⟩
  have B3 := Lib.hid (bTrans B1.out hb3)
  cases ok with
  | false =>
    rw [if_neg (by simp)] at hok
    subst hok
    have HRI1 := Lib.hid (HRI.out a1 [] 0 c1 _ ((show Rd w3 a1 0 (i64s []) from hrd.1).alloc (.cells #[.slice a1 0 c1, .slice a2 0 c2] 28)) (by omega))
    have hrb : rightB [] m = true := by unfold rightB; exact decide_eq_true ⟨by simp, by simp⟩
    rw [hrb] at HRI1
    clear hrb hrd hb3
    simp only [List.length_nil]
    go_wp2_with fail
    refine HRI1.out.mono ?_; rintro e w4 ⟨rfl, hb4⟩
    have B4 := Lib.hid (bTrans (bAlloc B3.out _) hb4)
    clear hb4 HRI1
    go_wp2_with fail
    go_ret
    exact ⟨rfl, B4.out⟩
  | true =>
    rw [if_pos rfl] at hok
    obtain ⟨hG, hgl⟩ := hok
    have HG := Lib.hid hG
    have hld := hG.le
    rw [HLM.out] at hld
    have HRD := Lib.hid hrd
    clear hG hrd hb3
    have HRB := Lib.hid (ordR (l := l) HG.out.nd HG.out.ldl)
    rw [HLM.out] at HRB
    have HORD := Lib.hid (fun i k (hik : i < k) (hk : k < s.ld.length) => List.pairwise_iff_getElem.1 HG.out.ord i k (by omega) hk hik)
    obtain ⟨n1, hn1⟩ : ∃ n, s.ld.length = n := ⟨_, rfl⟩
    obtain ⟨n2, hn2⟩ : ∃ n, s.op.length = n := ⟨_, rfl⟩
    unfold RdSt at HRD
    rw [hn1, hn2] at HRD ⊢
    rw [hn1] at hld
    rw [hn2] at hgl
    have HN1 := Lib.hid hn1
    have HN2 := Lib.hid hn2
    clear hn1 hn2
    have R1 := Lib.hid (HRD.out.1.alloc (.cells #[.slice a1 n1 c1, .slice a2 n2 c2] 28))
    have HRI1 := Lib.hid (HRI.out a1 (ordZ s.ld) n1 c1 _ R1.out (by omega))
    rw [HRB.out] at HRI1
    go_wp2_with fail
    refine HRI1.out.mono ?_; rintro e w4 ⟨rfl, hb4⟩
    have BX := Lib.hid ((BoxS.new w3 (.slice a1 n1 c1) (.slice a2 n2 c2) 28).below hb4)
    have B4 := Lib.hid (bTrans (bAlloc B3.out _) hb4)
    have R1 := Lib.hid (R1.out.below hb4)
    clear hb4 HRI1
    go_wp2_with fail
    go_loopw [12] (fun i wr => ∃ j : Nat, j ≤ n1 ∧ i = .int .i64 j ∧ Hid (Below w4.heap.size w4 wr)) (fun i _ => n1 - (intOf i).toNat)
    case atStart => exact ⟨0, by omega, rfl, Lib.hid (Below.refl _ _)⟩
    case round =>
      obtain ⟨j, hj, rfl, HB⟩ := hrel
      obtain ⟨p1, p2, -, p4, -⟩ := (BX.out.below HB.out).cells
      by_cases h : j < n1
      · have hjo : j < s.ld.length := by rw [HN1.out]; exact h
        have hyl0 := HG.out.ldl _ (List.getElem_mem hjo)
        obtain ⟨y, hy⟩ : ∃ y, s.ld[j] = y := ⟨_, rfl⟩
        rw [hy] at hyl0
        have HY := Lib.hid hy
        have HYL := Lib.hid hyl0
        clear hy hyl0
        go_wp2_with fail
        clear p1 p2 p4
        obtain ⟨wo, rfl⟩ : ∃ wo : World, wo = wr := ⟨_, rfl⟩
        go_loopw [13] (fun i wr => ∃ k : Nat, j < k ∧ k ≤ n1 ∧ i = .int .i64 k ∧ Hid (Below w4.heap.size w4 wr)) (fun i _ => n1 - (intOf i).toNat)
        case atStart => exact ⟨j + 1, by omega, by omega, by go_num, HB⟩
        case round =>
          obtain ⟨k, hjk, hk, rfl, HB2⟩ := hrel
          obtain ⟨p1, p2, -, p4, -⟩ := (BX.out.below HB2.out).cells
          by_cases hkn : k < n1
          · have hko : k < s.ld.length := by rw [HN1.out]; exact hkn
            have rd4 := R1.out.below HB2.out
            obtain ⟨g4, f4, rfl, -, hcj⟩ := rd4.at_ h
            obtain ⟨g4', f4', e', -, hck⟩ := rd4.at_ hkn
            cases e'
            rw [ordZ_get s.ld j hjo, HY.out] at hcj
            rw [ordZ_get s.ld k hko] at hck
            have hxl := HG.out.ldl _ (List.getElem_mem hko)
            have hbeh := HORD.out j k hjk hko
            obtain ⟨x, hx⟩ : ∃ x, s.ld[k] = x := ⟨_, rfl⟩
            rw [hx] at hck hxl hbeh
            rw [HY.out] at hbeh
            have HBH := Lib.hid hbeh
            have HXL := Lib.hid hxl
            have HN1' := Lib.hid (fun W (hW : RdO W a l) => HND.out y x W hW (by rw [← HLM.out]; exact HYL.out))
            have HR1 := Lib.hid (fun W (hW : RdO W a l) => HRE.out x W hW (by rw [← HLM.out]; exact hxl))
            have BW := Lib.hid (bTrans B4.out HB2.out)
            have hgs := heap_lt_of_cell hcj
            have hgb := heap_lt_of_cell p1
            have X := Lib.hid (And.intro p1 (And.intro hcj hck))
            have HKP := Lib.hid (fun (W : World) (h : Below wr.heap.size wr W) => And.intro ((h.cell (p := ⟨w3.heap.size, 0, none⟩) hgb).trans p1) (And.intro ((h.cell (p := ⟨g4, f4 + j, none⟩) hgs).trans hcj) ((h.cell (p := ⟨g4, f4 + k, none⟩) hgs).trans hck)))
            have kk0 : (0 : Int) ≤ (k : Int) := by omega
            have kk1 : (k : Int) < (n1 : Int) := by omega
            have jj0 : (0 : Int) ≤ (j : Int) := by omega
            have jj1 : (j : Int) < (n1 : Int) := by omega
            obtain ⟨bn, hbn⟩ : ∃ bn, needsB l y x = bn := ⟨_, rfl⟩
            rw [hbn] at HN1'
            have HBN := Lib.hid hbn
            clear hx hxl hbeh hko rd4 hcj hck hgs hgb hbn p2 p4
            go_wp2_with fail
            clear p1
            go_region_held3 (fun W => W.cell? ⟨w3.heap.size, 0, none⟩ = some (.slice (some ⟨g4, f4, none⟩) n1 c1) ∧ W.cell? ⟨g4, f4 + j, none⟩ = some (.int .i64 (y : Int)) ∧ W.cell? ⟨g4, f4 + k, none⟩ = some (.int .i64 (x : Int)))
              (first | exact X.out | go_keep)
              (first
                | (go_at_call 25; (with_reducible refine (HN1'.out _ (HL.out.below (Below.drew BW.out))).mono ?_); rintro e w7 ⟨rfl, rfl⟩))
            go_wp2_with fail
            go_region_held3 (fun W => W.cell? ⟨w3.heap.size, 0, none⟩ = some (.slice (some ⟨g4, f4, none⟩) n1 c1) ∧ W.cell? ⟨g4, f4 + j, none⟩ = some (.int .i64 (y : Int)) ∧ W.cell? ⟨g4, f4 + k, none⟩ = some (.int .i64 (x : Int)))
              (first | exact X.out | exact HKP.out _ H7.out | go_keep)
              (first
                | (go_at_call 26; (with_reducible refine (HR1.out _ (HL.out.below (Below.drew (Below.drew BW.out)))).mono ?_); rintro e w7 ⟨a7, c7, o7, rfl, hr7, hs7, hm7, hb7⟩; have H7 := Lib.hid (bTrans (Below.drew (Below.drew (Below.refl _ _))) hb7); have R7 := Lib.hid hr7; have M7 := Lib.hid hm7; have S7 := Lib.hid hs7; clear hr7 hm7 hb7 hs7)
                | (go_at_call 23; (with_reducible refine (has_any _ _ _ _ _ _ R7.out (len_of S7.out M7.out HXL.out hm HLM.out)).mono ?_); rintro e w8 ⟨rfl, rfl⟩))
            have HB7 := Lib.hid (bTrans HB2.out H7.out)
            cases bn with
            | false =>
              go_wp2_with fail
              go_roundw
              case rel => exact ⟨k + 1, by omega, by omega, by go_num, HB7⟩
              case measure => simp [intOf]; omega
            | true =>
              have hdec : decide ((y : Int) ∈ ordZ o7) = true := decide_eq_true ((ordZ_mem o7 y).2 ((M7.out y).2 (HBH.out ((needsB_iff l y x).1 HBN.out))))
              rw [hdec]
              clear hdec
              go_wp2_with fail
              go_roundw
              case rel => exact ⟨k + 1, by omega, by omega, by go_num, HB7⟩
              case measure => simp [intOf]; omega
          · go_wp2_with fail
            go_roundw
            case rel => exact ⟨j + 1, by omega, by go_num, HB2⟩
            case measure => simp [intOf]; omega
      · have HBB := Lib.hid (bTrans B4.out HB.out)
        go_wp2_with fail
        go_ret
        exact ⟨rfl, HBB.out⟩
theorem DlOrder_walk (a : Option Addr) (l : List Obj) (c : Nat) (root : List UInt8) (b : Option Addr) (ops : List (Bool × List UInt8)) (d : Nat) (w : World) (hl : RdO w a l) (hn : (∀ o ∈ l, o.name.length ≤ maxLen ∧ ∀ n ∈ o.needs, n.length ≤ maxLen) ∧ ∀ o ∈ l, o.needs.length ≤ maxLen) (hm : l.length ≤ maxLen) (hroot : root.length ≤ maxLen) (hp : RdP w b ops) (hpm : ∀ o ∈ ops, o.2.length ≤ maxLen) (hpl : ops.length ≤ maxLen) :
    Calls Try.prog 6 #[.slice a l.length c, .string ⟨root.toArray⟩, .slice b ops.length d] w fun e w' => e = .returned (.bool true) ∧ Below w.heap.size w w' := by
  by_cases hs : shortB l 12 = true
  · by_cases h40 : ops.length ≤ 30
    · obtain ⟨hnm, hm12⟩ := short_named hs hn.1
      exact order_yes a l c root b ops d w hl hs hnm hm12 hroot hp h40 hpm
    · exact order_no a l c root b ops d w hl hn.2 hm hpl (Or.inr (by omega))
  · exact order_no a l c root b ops d w hl hn.2 hm hpl (Or.inl ((Bool.not_eq_true _).mp hs))
end Go.Proofs.Ytfneikphgmjfbaa
