/- GraphAll: its walk. -/
import Derived.Test.YtcafommklmepgaaGrS
namespace Go.Proofs.Ytcafommklmepgaa
set_option linter.unusedVariables false
set_option linter.unusedSimpArgs false
open Go.Joins Go.ChangeShapes Go.WideShapes Go.ChangeAt Go.RowKit

theorem right_true {l : List Obj} {o : List Nat} (h : Ord l o) : rightB (ordZ o) l.length = true := by
  unfold rightB
  refine decide_eq_true ⟨fun x hx => ?_, ?_⟩
  · simp only [ordZ, List.mem_map] at hx
    obtain ⟨k, hk, rfl⟩ := hx
    have := h.2 k hk
    omega
  · unfold ordZ
    exact List.Pairwise.map _ (fun a b hab e => hab (by omega)) h.1
theorem has_true {o : List Nat} {k : Nat} (h : k ∈ o) : (ordZ o).contains (k : Int) = true := by
  rw [ordZ_contains]
  exact List.contains_iff_mem.2 h
set_option maxHeartbeats 1000000 in
theorem all_no (a : Option Addr) (l : List Obj) (c : Nat) (root : List UInt8) (w : World) (hl : RdO w a l) (hnd : ∀ o ∈ l, o.needs.length ≤ maxLen) (hm : l.length ≤ maxLen) (h : shortB l 20 = false) :
    Calls Try.prog 5 #[.slice a l.length c, .string ⟨root.toArray⟩] w fun e w' => e = .returned (.bool true) ∧ Below w.heap.size w w' := by
  have HL := Lib.hid hl
  have HSH := Lib.hid (fun W (hW : RdO W a l) => short_any a l c 20 W hW hm (by omega) hnd)
  rw [h] at HSH
  clear hl hnd hm h
  obtain ⟨m, hlm⟩ : ∃ m, l.length = m := ⟨_, rfl⟩
  rw [hlm] at HSH ⊢
  clear hlm
  go_enter Try.func5, Try.ntmps5
  go_wp2_with fail
  refine (awake_any _).mono ?_; rintro e w1 ⟨rfl, hb1⟩
  have B1 := Lib.hid hb1
  clear hb1
  go_wp2_with fail
  refine (HSH.out _ (HL.out.below B1.out)).mono ?_; rintro e w2 ⟨rfl, rfl⟩
  go_wp2_with fail
  go_ret
  exact ⟨rfl, B1.out⟩
set_option maxRecDepth 100000 in
set_option maxHeartbeats 4000000 in
theorem all_yes (a : Option Addr) (l : List Obj) (c : Nat) (root : List UInt8) (w : World) (hl : RdO w a l) (hs : shortB l 20 = true) (hnm : Named l) (hm : l.length ≤ 20) (hroot : root.length ≤ maxLen) :
    Calls Try.prog 5 #[.slice a l.length c, .string ⟨root.toArray⟩] w fun e w' => e = .returned (.bool true) ∧ Below w.heap.size w w' := by
  have HL := Lib.hid hl
  have HSH := Lib.hid (fun W (hW : RdO W a l) => short_any a l c 20 W hW (by unfold maxLen; omega) (by omega) (fun o ho => by have := (hnm o ho).2.1; unfold maxLen; omega))
  have HCL := Lib.hid (fun W (hW : RdO W a l) => closure_any a l c root W hW (by omega) hnm hroot)
  have HRE := Lib.hid (fun s W (hW : RdO W a l) (h : s < l.length) => reach_any a l c s W hW (by omega) hnm h)
  have HBE := Lib.hid (fun b (ord : List Nat) d W (hW : RdO W a l) (hV : Rd W b ord.length (i64s (ordZ ord))) (hO : Ord l ord) => begin_any a l c b ord d W hW (by omega) hnm hV hO.2 (by have := hO.le; omega))
  have HRI := Lib.hid (fun b (ord : List Nat) d W (hV : Rd W b ord.length (i64s (ordZ ord))) (hO : Ord l ord) => right_any b (ordZ ord) ord.length d l.length W hV (by have := hO.le; omega) (by omega))
  rw [hs] at HSH
  clear hl hnm hs
  obtain ⟨m, hlm⟩ : ∃ m, l.length = m := ⟨_, rfl⟩
  rw [hlm] at hm HSH HCL HRE HBE ⊢
  have HLM := Lib.hid hlm
  clear hlm
  cases hcr : closR l root with
  | inr n =>
    have HCR := Lib.hid hcr
    clear hcr
    go_enter Try.func5, Try.ntmps5
    go_wp2_with fail
    refine (awake_any _).mono ?_; rintro e w1 ⟨rfl, hb1⟩
    have B1 := Lib.hid hb1
    clear hb1
    go_wp2_with fail
    refine (HSH.out _ (HL.out.below B1.out)).mono ?_; rintro e w2 ⟨rfl, rfl⟩
    go_wp2_with fail
    refine (HCL.out _ (HL.out.below B1.out)).mono ?_; rintro e w2 ⟨hb2, hp⟩
    rw [HCR.out] at hp
    subst hp
    have B2 := Lib.hid (bTrans B1.out hb2)
    clear hb2
    go_wp2_with fail
    go_ret
    exact ⟨rfl, B2.out⟩
  | inl o =>
    obtain ⟨s, ho0, hsl, hO, hmem⟩ := closR_RE hcr
    have HCR := Lib.hid hcr
    have HSL := Lib.hid hsl
    have HO := Lib.hid hO
    have HMEM := Lib.hid hmem
    have hpos : 0 < o.length := by
      rcases Nat.eq_zero_or_pos o.length with h | h
      · rw [List.getElem?_eq_none (by omega)] at ho0; cases ho0
      · exact h
    have hol := hO.le
    rw [HLM.out] at hol hsl
    have h0 : o[0]'hpos = s := by rw [List.getElem?_eq_getElem hpos] at ho0; exact Option.some.inj ho0
    have hg0 := ordZ_get o 0 hpos
    rw [h0] at hg0
    have HG0 := Lib.hid hg0
    have HRO := Lib.hid (right_true hO)
    clear hcr hO hmem ho0 h0 hg0
    obtain ⟨n, hn⟩ : ∃ n, o.length = n := ⟨_, rfl⟩
    rw [hn] at hpos hol
    have HN := Lib.hid hn
    clear hn
    go_enter Try.func5, Try.ntmps5
    go_wp2_with fail
    refine (awake_any _).mono ?_; rintro e w1 ⟨rfl, hb1⟩
    have B1 := Lib.hid hb1
    clear hb1
    go_wp2_with fail
    refine (HSH.out _ (HL.out.below B1.out)).mono ?_; rintro e w2 ⟨rfl, rfl⟩
    go_wp2_with fail
    refine (HCL.out _ (HL.out.below B1.out)).mono ?_; rintro e w2 ⟨hb2, hp⟩
    rw [HCR.out] at hp
    obtain ⟨a2, c2, rfl, hr2⟩ := hp
    have B2 := Lib.hid (bTrans B1.out hb2)
    have HRI1 := Lib.hid (fun W (hV : Rd W a2 o.length (i64s (ordZ o))) => HRI.out a2 o c2 W hV HO.out)
    have HBE1 := Lib.hid (fun W (hW : RdO W a l) (hV : Rd W a2 o.length (i64s (ordZ o))) => HBE.out a2 o c2 W hW hV HO.out)
    have HHA1 := Lib.hid (fun W (hV : Rd W a2 o.length (i64s (ordZ o))) (k : Nat) => has_any a2 (ordZ o) o.length c2 (k : Int) W hV (by rw [HN.out]; omega))
    rw [HRO.out, HLM.out] at HRI1
    rw [HN.out] at hr2 HRI1 HBE1 HHA1 ⊢
    have R2 := Lib.hid hr2
    obtain ⟨g2, f2, rfl, -, hc0⟩ := hr2.at_ hpos
    rw [HG0.out, Nat.add_zero] at hc0
    clear hb2 hr2 B1
    go_wp2_with fail
    refine (HRE.out s _ (HL.out.below B2.out) hsl).mono ?_; rintro e w3 ⟨a3, c3, o3, rfl, hr3, hO3, hm3, -, hb3⟩
    have e3 : o3.length = n := (nodup_len hO3.1 HO.out.1 (fun k => (hm3 k).trans (HMEM.out k).symm)).trans HN.out
    have HIN := Lib.hid (fun k (hk : k ∈ o3) => (HMEM.out k).2 ((hm3 k).1 hk))
    rw [e3] at hr3 ⊢
    have R3 := Lib.hid hr3
    have E3 := Lib.hid e3
    have B3 := Lib.hid (bTrans B2.out hb3)
    have R2 := Lib.hid (R2.out.below hb3)
    clear hr3 hO3 hm3 hb3 B2 hc0 e3
    go_wp2_with fail
    refine (HBE1.out _ (HL.out.below B3.out) R2.out).mono ?_; rintro e w4 ⟨a4, c4, m4, o4, rfl, hv4, ho4, hg4, hb4⟩
    have hmem4 := vis_mem hv4 HO.out.2
    have e4 : o4.length = n := (nodup_len hg4.2.2.1 HO.out.1 hmem4).trans HN.out
    have HO4 := Lib.hid (show Ord l o4 from ⟨hg4.2.2.1, hg4.2.2.2⟩)
    have HRI4 := Lib.hid (fun W (hV : Rd W a4 o4.length (i64s (ordZ o4))) => HRI.out a4 o4 c4 W hV HO4.out)
    have HHA4 := Lib.hid (fun W (hV : Rd W a4 o4.length (i64s (ordZ o4))) (k : Nat) => has_any a4 (ordZ o4) o4.length c4 (k : Int) W hV (by rw [e4]; omega))
    have hr4 := Rd.of_own ho4
    have HIN4 := Lib.hid (fun k (hk : k ∈ o3) => (hmem4 k).2 (HIN.out k hk))
    have hrt4 := right_true HO4.out
    rw [hrt4, HLM.out] at HRI4
    rw [e4] at hr4 HRI4 HHA4 ⊢
    have R4 := Lib.hid hr4
    have B4 := Lib.hid (bTrans B3.out hb4)
    have R2 := Lib.hid (R2.out.below hb4)
    have R3 := Lib.hid (R3.out.below hb4)
    clear hr4 hv4 ho4 hg4 hb4 B3 hrt4 hmem4 e4
    go_wp2_with fail
    refine (HRI1.out _ R2.out).mono ?_; rintro e w5 ⟨rfl, hb5⟩
    have B5 := Lib.hid (bTrans B4.out hb5)
    have R2 := Lib.hid (R2.out.below hb5)
    have R3 := Lib.hid (R3.out.below hb5)
    have R4 := Lib.hid (R4.out.below hb5)
    clear hb5 B4
    go_wp2_with fail
    refine (HRI4.out _ R4.out).mono ?_; rintro e w6 ⟨rfl, hb6⟩
    have B6 := Lib.hid (bTrans B5.out hb6)
    have R2 := Lib.hid (R2.out.below hb6)
    have R3 := Lib.hid (R3.out.below hb6)
    have R4 := Lib.hid (R4.out.below hb6)
    clear hb6 B5 HRI1 HRI4 HBE1 HRI HBE HRE HCL HSH
    go_wp2_with fail
    go_loopw [14] (fun i wr => ∃ j : Nat, j ≤ n ∧ i = .int .i64 j ∧ Hid (Below w6.heap.size w6 wr)) (fun i _ => n - (intOf i).toNat)
    case atStart => exact ⟨0, by omega, rfl, Lib.hid (Below.refl _ _)⟩
    case round =>
      obtain ⟨j, hj, rfl, HB⟩ := hrel
      by_cases h : j < n
      · obtain ⟨g5, f5, rfl, -, hc⟩ := (R3.out.below HB.out).at_ h
        have hjo : j < o3.length := by rw [E3.out]; exact h
        rw [ordZ_get o3 j hjo] at hc
        have hmem := List.getElem_mem hjo
        generalize o3[j] = k at hc hmem
        have H1 := Lib.hid (HHA1.out wr (R2.out.below HB.out) k)
        have H2 := Lib.hid (HHA4.out wr (R4.out.below HB.out) k)
        rw [has_true (HIN.out k hmem)] at H1
        rw [has_true (HIN4.out k hmem)] at H2
        clear hmem hjo
        go_wp2_with fail
        refine H1.out.mono ?_; rintro e w7 ⟨rfl, rfl⟩
        go_wp2_with fail
        refine H2.out.mono ?_; rintro e w7 ⟨rfl, rfl⟩
        go_wp2_with fail
        go_roundw
        case rel => exact ⟨j + 1, by omega, by go_num, HB⟩
        case measure => simp [intOf]; omega
      · have HBB := Lib.hid (bTrans B6.out HB.out)
        have hself : ((n : Int) == (n : Int)) = true := by simp
        go_wp2_with fail
        go_ret
        exact ⟨rfl, HBB.out⟩
theorem GraphAll_walk (a : Option Addr) (l : List Obj) (c : Nat) (root : List UInt8) (w : World) (hl : RdO w a l) (hn : (∀ o ∈ l, o.name.length ≤ maxLen ∧ ∀ n ∈ o.needs, n.length ≤ maxLen) ∧ ∀ o ∈ l, o.needs.length ≤ maxLen) (hm : l.length ≤ maxLen) (hroot : root.length ≤ maxLen) :
    Calls Try.prog 5 #[.slice a l.length c, .string ⟨root.toArray⟩] w fun e w' => e = .returned (.bool true) ∧ Below w.heap.size w w' := by
  by_cases hs : shortB l 20 = true
  · obtain ⟨hnm, hm20⟩ := short_named hs hn.1
    exact all_yes a l c root w hl hs hnm hm20 hroot
  · exact all_no a l c root w hl hn.2 hm ((Bool.not_eq_true _).mp hs)
end Go.Proofs.Ytcafommklmepgaa
