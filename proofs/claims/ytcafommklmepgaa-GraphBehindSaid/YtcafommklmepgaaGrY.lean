/- GraphBehind: its walk. -/
import Derived.Test.YtcafommklmepgaaGrX
import Derived.Test.YtcafommklmepgaaGrT
import Derived.Deep.RegionHeld3
namespace Go.Proofs.Ytcafommklmepgaa
set_option linter.unusedVariables false
set_option linter.unusedSimpArgs false
open Go.Joins Go.ChangeShapes Go.WideShapes Go.ChangeAt Go.RowKit

set_option maxHeartbeats 1000000 in
theorem behind_no (a : Option Addr) (l : List Obj) (c : Nat) (root : List UInt8) (w : World) (hl : RdO w a l) (hnd : ∀ o ∈ l, o.needs.length ≤ maxLen) (hm : l.length ≤ maxLen) (h : shortB l 12 = false) :
    Calls Try.prog 6 #[.slice a l.length c, .string ⟨root.toArray⟩] w fun e w' => e = .returned (.bool true) ∧ Below w.heap.size w w' := by
  have HL := Lib.hid hl
  have HSH := Lib.hid (fun W (hW : RdO W a l) => short_any a l c 12 W hW hm (by omega) hnd)
  rw [h] at HSH
  clear hl hnd hm h
  obtain ⟨m, hlm⟩ : ∃ m, l.length = m := ⟨_, rfl⟩
  rw [hlm] at HSH ⊢
  clear hlm
  go_enter Try.func6, Try.ntmps6
  go_wp2_with fail
  refine (awake_any _).mono ?_; rintro e w1 ⟨rfl, hb1⟩
  have B1 := Lib.hid hb1
  clear hb1
  go_wp2_with fail
  refine (HSH.out _ (HL.out.below B1.out)).mono ?_; rintro e w2 ⟨rfl, rfl⟩
  go_wp2_with fail
  go_ret
  exact ⟨rfl, B1.out⟩
theorem len_of {l : List Obj} {o : List Nat} {x m : Nat} (h : o.Pairwise (· < ·)) (hm : ∀ k, k ∈ o ↔ RE l x k) (hx : x < l.length) (h12 : m ≤ 12) (hl : l.length = m) : o.length ≤ 9223372036854775807 := by
  have := nodup_le l.length o (h.imp fun {a b} h => by omega) fun k hk => by
    have hre := (hm k).1 hk
    cases hre with
    | refl => exact hx
    | step _ h => exact needsI_lt h
  omega
set_option maxRecDepth 100000 in
set_option maxHeartbeats 4000000 in
theorem behind_yes (a : Option Addr) (l : List Obj) (c : Nat) (root : List UInt8) (w : World) (hl : RdO w a l) (hs : shortB l 12 = true) (hnm : Named l) (hm : l.length ≤ 12) (hroot : root.length ≤ maxLen) :
    Calls Try.prog 6 #[.slice a l.length c, .string ⟨root.toArray⟩] w fun e w' => e = .returned (.bool true) ∧ Below w.heap.size w w' := by
  have HL := Lib.hid hl
  have HSH := Lib.hid (fun W (hW : RdO W a l) => short_any a l c 12 W hW (by unfold maxLen; omega) (by omega) (fun o ho => by have := (hnm o ho).2.1; unfold maxLen; omega))
  have HCL := Lib.hid (fun W (hW : RdO W a l) => closure_any a l c root W hW (by omega) hnm hroot)
  have HRE := Lib.hid (fun s W (hW : RdO W a l) (h : s < l.length) => rreach_any a l c s W hW (by omega) hnm h)
  have HND := Lib.hid (fun i j W (hW : RdO W a l) (h : i < l.length) => needs_any a l c i j W hW (by omega) hnm h)
  have HBE := Lib.hid (fun b (ord : List Nat) d W (hW : RdO W a l) (hV : Rd W b ord.length (i64s (ordZ ord))) (hO : Ord l ord) => begin_any a l c b ord d W hW (by omega) hnm hV hO.2 (by have := hO.le; omega))
  have HEN := Lib.hid (fun b (ord : List Nat) d W (hW : RdO W a l) (hV : Rd W b ord.length (i64s (ordZ ord))) (hO : Ord l ord) => end_any a l c b ord d W hW (by omega) hnm hV hO.2 (by have := hO.le; omega))
  have HRI := Lib.hid (fun b (ord : List Nat) d W (hV : Rd W b ord.length (i64s (ordZ ord))) (hO : Ord l ord) => right_any b (ordZ ord) ord.length d l.length W hV (by have := hO.le; omega) (by omega))
  rw [hs] at HSH
  clear hl hnm hs
  obtain ⟨m, hlm⟩ : ∃ m, l.length = m := ⟨_, rfl⟩
  rw [hlm] at hm HSH HCL HRE HND HBE HEN ⊢
  have HLM := Lib.hid hlm
  clear hlm
  cases hcr : closR l root with
  | inr n =>
    have HCR := Lib.hid hcr
    clear hcr
    go_enter Try.func6, Try.ntmps6
    go_wp2_with fail
    refine (awake_any _).mono ?_; rintro e w1 ⟨rfl, hb1⟩
    have B1 := Lib.hid hb1
    clear hb1
    go_wp2_with fail
    refine (HSH.out _ (HL.out.below B1.out)).mono ?_; rintro e w2 ⟨rfl, rfl⟩
    go_wp2_with fail
    refine (HCL.out _ (HL.out.below B1.out)).mono ?_; rintro e w2 ⟨hb2, hp⟩
    rw [HCR.out] at hp
    subst hp
    have B2 := Lib.hid (bTrans B1.out hb2)
    clear hb2
    go_wp2_with fail
    go_ret
    exact ⟨rfl, B2.out⟩
  | inl o =>
    obtain ⟨s, -, -, hO, -⟩ := closR_RE hcr
    have HCR := Lib.hid hcr
    have HO := Lib.hid hO
    have hol := hO.le
    rw [HLM.out] at hol
    clear hcr hO
    obtain ⟨n, hn⟩ : ∃ n, o.length = n := ⟨_, rfl⟩
    rw [hn] at hol
    have HN := Lib.hid hn
    clear hn
    go_enter Try.func6, Try.ntmps6
    go_wp2_with fail
    refine (awake_any _).mono ?_; rintro e w1 ⟨rfl, hb1⟩
    have B1 := Lib.hid hb1
    clear hb1
    go_wp2_with fail
    refine (HSH.out _ (HL.out.below B1.out)).mono ?_; rintro e w2 ⟨rfl, rfl⟩
    go_wp2_with fail
    refine (HCL.out _ (HL.out.below B1.out)).mono ?_; rintro e w2 ⟨hb2, hp⟩
    rw [HCR.out] at hp
    obtain ⟨a2, c2, rfl, hr2⟩ := hp
    have B2 := Lib.hid (bTrans B1.out hb2)
    have HBE1 := Lib.hid (fun W (hW : RdO W a l) (hV : Rd W a2 o.length (i64s (ordZ o))) => HBE.out a2 o c2 W hW hV HO.out)
    have HEN1 := Lib.hid (fun W (hW : RdO W a l) (hV : Rd W a2 o.length (i64s (ordZ o))) => HEN.out a2 o c2 W hW hV HO.out)
    rw [HN.out] at hr2 HBE1 HEN1 ⊢
    have R2 := Lib.hid hr2
    clear hb2 hr2 B1
    go_wp2_with fail
    refine (HBE1.out _ (HL.out.below B2.out) R2.out).mono ?_; rintro e w4 ⟨a4, c4, m4, o4, rfl, hv4, ho4, hg4, hb4⟩
    have e4 : o4.length = n := (nodup_len hg4.2.2.1 HO.out.1 (vis_mem hv4 HO.out.2)).trans HN.out
    have HO4 := Lib.hid (show Ord l o4 from ⟨hg4.2.2.1, hg4.2.2.2⟩)
    have HRI4 := Lib.hid (fun W (hV : Rd W a4 o4.length (i64s (ordZ o4))) => HRI.out a4 o4 c4 W hV HO4.out)
    have hr4 := Rd.of_own ho4
    have hrt4 := right_true HO4.out
    rw [hrt4, HLM.out] at HRI4
    have HBEH := Lib.hid (fun i k (h1 : i < k) (h2 : k < o4.length) => behind hv4 HO.out hg4.2.2.1 i k h1 h2)
    rw [e4] at hr4 HRI4 ⊢
    have E4 := Lib.hid e4
    have V4 := Lib.hid hv4
    have R4 := Lib.hid hr4
    have B4 := Lib.hid (bTrans B2.out hb4)
    have R2 := Lib.hid (R2.out.below hb4)
    clear hr4 hv4 ho4 hg4 hb4 B2 hrt4 e4
    go_wp2_with fail
    refine (HEN1.out _ (HL.out.below B4.out) R2.out).mono ?_; rintro e w5 ⟨a5, c5, m5, o5, rfl, hv5, ho5, -, hb5⟩
    obtain ⟨rfl, rfl⟩ := Vis.det V4.out hv5
    have hr5 := Rd.of_own ho5
    rw [E4.out] at hr5 ⊢
    have R5 := Lib.hid hr5
    have R4 := Lib.hid (R4.out.below hb5)
    have B5 := Lib.hid (bTrans B4.out hb5)
    clear hr5 hv5 ho5 hb5 B4
    go_wp2_with fail
    refine (HRI4.out _ R4.out).mono ?_; rintro e w6 ⟨rfl, hb6⟩
    have B6 := Lib.hid (bTrans B5.out hb6)
    have R4 := Lib.hid (R4.out.below hb6)
    have R5 := Lib.hid (R5.out.below hb6)
    clear hb6 B5 HRI4 HRI HBE HBE1 HEN HEN1 HCL HSH R2
    go_wp2_with fail
    go_loopw [13] (fun i wr => ∃ j : Nat, j ≤ n ∧ i = .int .i64 j ∧ Hid (Below w6.heap.size w6 wr)) (fun i _ => n - (intOf i).toNat)
    case atStart => exact ⟨0, by omega, rfl, Lib.hid (Below.refl _ _)⟩
    case round =>
      obtain ⟨j, hj, rfl, HB⟩ := hrel
      by_cases h : j < n
      · have hjo : j < o4.length := by rw [E4.out]; exact h
        obtain ⟨y, hy⟩ : ∃ y, o4[j] = y := ⟨_, rfl⟩
        have HY := Lib.hid hy
        have HYL := Lib.hid (show y < l.length from hy ▸ HO4.out.2 _ (List.getElem_mem hjo))
        clear hy
        go_wp2_with fail
        go_loopw [14] (fun i wr => ∃ k : Nat, j < k ∧ k ≤ n ∧ i = .int .i64 k ∧ Hid (Below w6.heap.size w6 wr)) (fun i _ => n - (intOf i).toNat)
        case atStart => exact ⟨j + 1, by omega, by omega, by go_num, HB⟩
        case round =>
          obtain ⟨k, hjk, hk, rfl, HB2⟩ := hrel
          have rd4 := R4.out.below HB2.out
          obtain ⟨g4, f4, rfl, -, hcj⟩ := rd4.at_ h
          rw [ordZ_get o4 j hjo, HY.out] at hcj
          by_cases hkn : k < n
          · have hko : k < o4.length := by rw [E4.out]; exact hkn
            obtain ⟨g4', f4', e', -, hck⟩ := rd4.at_ hkn
            cases e'
            rw [ordZ_get o4 k hko] at hck
            obtain ⟨x, hx⟩ : ∃ x, o4[k] = x := ⟨_, rfl⟩
            rw [hx] at hck
            have hxl : x < l.length := hx ▸ HO4.out.2 _ (List.getElem_mem hko)
            have hbeh := HBEH.out j k hjk hko
            rw [hx, HY.out] at hbeh
            have HBH := Lib.hid hbeh
            have HXL := Lib.hid hxl
            have HN1 := Lib.hid (fun W (hW : RdO W a l) => HND.out y x W hW (by rw [← HLM.out]; exact HYL.out))
            have HR1 := Lib.hid (fun W (hW : RdO W a l) => HRE.out x W hW (by rw [← HLM.out]; exact hxl))
            have BW := Lib.hid (bTrans B6.out HB2.out)
            have hgs := heap_lt_of_cell hcj
            have X := Lib.hid (And.intro hcj hck)
            have HKP := Lib.hid (fun (W : World) (h : Below wr.heap.size wr W) => And.intro ((h.cell (p := ⟨g4, f4 + j, none⟩) hgs).trans hcj) ((h.cell (p := ⟨g4, f4 + k, none⟩) hgs).trans hck))
            have kk0 : (0 : Int) ≤ (k : Int) := by omega
            have kk1 : (k : Int) < (n : Int) := by omega
            have jj0 : (0 : Int) ≤ (j : Int) := by omega
            have jj1 : (j : Int) < (n : Int) := by omega
            obtain ⟨bn, hbn⟩ : ∃ bn, needsB l y x = bn := ⟨_, rfl⟩
            rw [hbn] at HN1
            have HBN := Lib.hid hbn
            clear hx hxl hbeh hko rd4 hcj hck hgs hbn
            go_wp2_with fail
            go_region_held3 (fun W => W.cell? ⟨g4, f4 + j, none⟩ = some (.int .i64 (y : Int)) ∧ W.cell? ⟨g4, f4 + k, none⟩ = some (.int .i64 (x : Int)))
              (first | exact X.out | go_keep)
              (first
                | (go_at_call 22; (with_reducible refine (HN1.out _ (HL.out.below (Below.drew BW.out))).mono ?_); rintro e w7 ⟨rfl, rfl⟩))
            go_wp2_with fail
            go_region_held3 (fun W => W.cell? ⟨g4, f4 + j, none⟩ = some (.int .i64 (y : Int)) ∧ W.cell? ⟨g4, f4 + k, none⟩ = some (.int .i64 (x : Int)))
              (first | exact X.out | exact HKP.out _ H7.out | go_keep)
              (first
                | (go_at_call 15; (with_reducible refine (HR1.out _ (HL.out.below (Below.drew (Below.drew BW.out)))).mono ?_); rintro e w7 ⟨a7, c7, o7, rfl, hr7, hs7, hm7, hb7⟩; have H7 := Lib.hid (bTrans (Below.drew (Below.drew (Below.refl _ _))) hb7); have R7 := Lib.hid hr7; have M7 := Lib.hid hm7; have S7 := Lib.hid hs7; clear hr7 hm7 hb7 hs7)
                | (go_at_call 21; (with_reducible refine (has_any _ _ _ _ _ _ R7.out (len_of S7.out M7.out HXL.out hm HLM.out)).mono ?_); rintro e w8 ⟨rfl, rfl⟩))
            have HB7 := Lib.hid (bTrans HB2.out H7.out)
            cases bn with
            | false =>
              go_wp2_with fail
              go_roundw
              case rel => exact ⟨k + 1, by omega, by omega, by go_num, HB7⟩
              case measure => simp [intOf]; omega
            | true =>
              have hdec : decide ((y : Int) ∈ ordZ o7) = true := decide_eq_true ((ordZ_mem o7 y).2 ((M7.out y).2 (HBH.out ((needsB_iff l y x).1 HBN.out))))
              rw [hdec]
              clear hdec
              go_wp2_with fail
              go_roundw
              case rel => exact ⟨k + 1, by omega, by omega, by go_num, HB7⟩
              case measure => simp [intOf]; omega
          · obtain ⟨kk, hkk⟩ : ∃ kk : Nat, (n : Int) - 1 - j = (kk : Int) := ⟨n - 1 - j, by omega⟩
            have hkn2 : kk < n := by omega
            obtain ⟨g5, f5, rfl, -, hc5⟩ := (R5.out.below HB2.out).at_ hkn2
            have hzl : (ordZ o4).length = n := by rw [ordZ_length, E4.out]
            rw [i64s_get _ kk (by rw [List.length_reverse]; omega), List.getElem_reverse] at hc5
            have hkj : (ordZ o4).length - 1 - kk = j := by omega
            simp only [hkj] at hc5
            have hzy : (ordZ o4)[j]'(by omega) = (y : Int) := by
              have := HY.out
              simp only [ordZ, List.getElem_map, this]
            rw [hzy] at hc5
            have hself : ((y : Int) != (y : Int)) = false := by simp
            clear rd4 hzl hkj hzy
            go_wp2_with fail
            go_quiet (fail)
            go_wp2_with fail
            go_roundw
            case rel => exact ⟨j + 1, by omega, by go_num, Lib.hid (bDrewN HB2.out _)⟩
            case measure => simp [intOf]; omega
      · have HBB := Lib.hid (bTrans B6.out HB.out)
        have hself : ((n : Int) == (n : Int)) = true := by simp
        go_wp2_with fail
        go_ret
        exact ⟨rfl, HBB.out⟩
theorem GraphBehind_walk (a : Option Addr) (l : List Obj) (c : Nat) (root : List UInt8) (w : World) (hl : RdO w a l) (hn : (∀ o ∈ l, o.name.length ≤ maxLen ∧ ∀ n ∈ o.needs, n.length ≤ maxLen) ∧ ∀ o ∈ l, o.needs.length ≤ maxLen) (hm : l.length ≤ maxLen) (hroot : root.length ≤ maxLen) :
    Calls Try.prog 6 #[.slice a l.length c, .string ⟨root.toArray⟩] w fun e w' => e = .returned (.bool true) ∧ Below w.heap.size w w' := by
  by_cases hs : shortB l 12 = true
  · obtain ⟨hnm, hm20⟩ := short_named hs hn.1
    exact behind_yes a l c root w hl hs hnm hm20 hroot
  · exact behind_no a l c root w hl hn.2 hm ((Bool.not_eq_true _).mp hs)
end Go.Proofs.Ytcafommklmepgaa
