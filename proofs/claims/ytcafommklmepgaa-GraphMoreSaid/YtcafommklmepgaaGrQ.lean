/- GraphBegins: its walk. -/
import Derived.Test.YtcafommklmepgaaGrO
import Derived.Test.YtcafommklmepgaaGrP
import Derived.Test.YtcafommklmepgaaGrJ
namespace Go.Proofs.Ytcafommklmepgaa
set_option linter.unusedVariables false
set_option linter.unusedSimpArgs false
open Go.Joins Go.ChangeShapes Go.WideShapes Go.ChangeAt Go.RowKit

theorem max_le {n : Nat} (h : n ≤ maxLen) : n ≤ 9223372036854775807 := by unfold maxLen at h; omega
theorem ordZ_length (o : List Nat) : (ordZ o).length = o.length := by simp [ordZ]
theorem ordZ_inj_nodup (o : List Nat) (h : (ordZ o).Nodup) : o.Nodup := by
  unfold ordZ at h
  exact List.Pairwise.of_map _ (fun a b hab e => hab (by rw [e])) h
theorem right_ord {z : List Int} {n : Nat} (h : rightB z n = true) : ∃ o : List Nat, z = ordZ o ∧ (∀ k ∈ o, k < n) ∧ o.length ≤ n := by
  unfold rightB at h
  have h := of_decide_eq_true h
  obtain ⟨o, rfl, ho⟩ := right_nats z n h.1
  exact ⟨o, rfl, ho, nodup_le _ _ (ordZ_inj_nodup o h.2) ho⟩
set_option maxRecDepth 100000 in
set_option maxHeartbeats 4000000 in
theorem begins_yes (a : Option Addr) (l : List Obj) (c : Nat) (b : Option Addr) (ord : List Nat) (d : Nat) (w : World) (hl : RdO w a l) (hs : shortB l 20 = true) (hnm : Named l) (hm : l.length ≤ 20) (ho : Rd w b ord.length (i64s (ordZ ord))) (hr : rightB (ordZ ord) l.length = true) (hord : ∀ k ∈ ord, k < l.length) (hol : ord.length ≤ 20) :
    Calls Try.prog 4 #[.slice a l.length c, .slice b ord.length d] w fun e w' => e = .returned (.bool true) ∧ Below w.heap.size w w' := by
  have HL := Lib.hid hl
  have HN := Lib.hid hnm
  have HO := Lib.hid ho
  have HSH := Lib.hid (fun W (hW : RdO W a l) => short_any a l c 20 W hW (by unfold maxLen; omega) (by omega) (fun o ho => by have := (hnm o ho).2.1; unfold maxLen; omega))
  have HRI := Lib.hid (fun W (hW : Rd W b ord.length (i64s (ordZ ord))) => right_any b (ordZ ord) ord.length d l.length W hW (by omega) (by omega))
  have HBE := Lib.hid (fun W (hW : RdO W a l) (hV : Rd W b ord.length (i64s (ordZ ord))) => begin_any a l c b ord d W hW (by omega) hnm hV hord (by omega))
  have HEN := Lib.hid (fun W (hW : RdO W a l) (hV : Rd W b ord.length (i64s (ordZ ord))) => end_any a l c b ord d W hW (by omega) hnm hV hord (by omega))
  have HRB := Lib.hid (fun W (hW : RdO W a l) (hV : Rd W b ord.length (i64s (ordZ ord))) => rbegin_any a l c b ord d W hW (by omega) hnm hV hord (by omega))
  rw [hs] at HSH
  rw [hr] at HRI
  clear hl hnm ho hs hr hord
  obtain ⟨m, hlm⟩ : ∃ m, l.length = m := ⟨_, rfl⟩
  obtain ⟨q, hq⟩ : ∃ q, ord.length = q := ⟨_, rfl⟩
  rw [hlm] at hm HSH HRI HBE HEN HRB ⊢
  rw [hq] at hol HO HRI HBE HEN HRB ⊢
  have HLM := Lib.hid hlm
  clear hlm hq
  go_enter Try.func4, Try.ntmps4
  go_wp2_with fail
  refine (awake_any _).mono ?_; rintro e w1 ⟨rfl, hb1⟩
  have B1 := Lib.hid hb1
  clear hb1
  go_wp2_with fail
  refine (HSH.out _ (HL.out.below B1.out)).mono ?_; rintro e w2 ⟨rfl, rfl⟩
  go_wp2_with fail
  refine (HRI.out _ (HO.out.below B1.out)).mono ?_; rintro e w2 ⟨rfl, hb2⟩
  have B2 := Lib.hid (bTrans B1.out hb2)
  clear hb2 B1
  go_wp2_with fail
  refine (HBE.out _ (HL.out.below B2.out) (HO.out.below B2.out)).mono ?_; rintro e w3 ⟨a3, c3, m3, o3, rfl, hv3, ho3, hg3, hb3⟩
  have B3 := Lib.hid (bTrans B2.out hb3)
  have R3 := Lib.hid (Rd.of_own ho3)
  have V3 := Lib.hid hv3
  have hol3 := hg3.le
  rw [HLM.out] at hol3
  clear hb3 ho3 hv3 hg3 B2
  go_wp2_with fail
  refine (HEN.out _ (HL.out.below B3.out) (HO.out.below B3.out)).mono ?_; rintro e w4 ⟨a4, c4, m4, o4, rfl, hv4, ho4, -, hb4⟩
  obtain ⟨rfl, rfl⟩ := Vis.det V3.out hv4
  have B4 := Lib.hid (bTrans B3.out hb4)
  have R4 := Lib.hid (Rd.of_own ho4)
  have R3 := Lib.hid (R3.out.below hb4)
  clear hb4 ho4 hv4 B3
  go_wp2_with fail
  refine (HRB.out _ (HL.out.below B4.out) (HO.out.below B4.out)).mono ?_; rintro e w5 ⟨a5, c5, m5, o5, rfl, hv5, ho5, -, hb5⟩
  obtain ⟨rfl, rfl⟩ := Vis.det V3.out hv5
  have B5 := Lib.hid (bTrans B4.out hb5)
  have R5 := Lib.hid (Rd.of_own ho5)
  have R3 := Lib.hid (R3.out.below hb5)
  have R4 := Lib.hid (R4.out.below hb5)
  clear hb5 ho5 hv5 B4 HBE HEN HRB HSH HRI
  obtain ⟨n, hn⟩ : ∃ n, o3.length = n := ⟨_, rfl⟩
  rw [hn] at R3 R4 R5 hol3 ⊢
  have HNN := Lib.hid hn
  clear hn
  go_wp2_with fail
  go_loopw [11] (fun i wr => ∃ j : Nat, j ≤ n ∧ i = .int .i64 j ∧ Hid (Below w5.heap.size w5 wr)) (fun i _ => n - (intOf i).toNat)
  case atStart => exact ⟨0, by omega, rfl, Lib.hid (Below.refl _ _)⟩
  case round =>
    obtain ⟨j, hj, rfl, HB⟩ := hrel
    by_cases h : j < n
    · obtain ⟨k, hk⟩ : ∃ k : Nat, (n : Int) - 1 - j = (k : Int) := ⟨n - 1 - j, by omega⟩
      have hkn : k < n := by omega
      obtain ⟨g4, f4, rfl, -, c4'⟩ := (R4.out.below HB.out).at_ h
      obtain ⟨g5, f5, rfl, -, c5'⟩ := (R5.out.below HB.out).at_ hkn
      have hzl : (ordZ o3).length = n := by rw [ordZ_length, HNN.out]
      rw [i64s_get _ j (by rw [List.length_reverse]; omega), List.getElem_reverse] at c4'
      rw [i64s_get _ k (by omega)] at c5'
      have hkk : (ordZ o3).length - 1 - j = k := by omega
      simp only [hkk] at c4'
      generalize (ordZ o3)[k] = y at c4' c5'
      have hself : (y != y) = false := by simp
      clear hzl hkk
      go_wp2_with fail
      go_quiet (fail)
      go_wp2_with fail
      go_roundw
      case rel => exact ⟨j + 1, by omega, by go_num, Lib.hid (bDrewN HB.out _)⟩
      case measure => simp [intOf]; omega
    · have HNU := Lib.hid (numbers_self a3 a5 n c3 n c5 (ordZ o3) wr (R3.out.below HB.out) (R5.out.below HB.out) (by omega) (by omega))
      go_wp2_with fail
      refine HNU.out.mono ?_; rintro e w6 ⟨rfl, hb6⟩
      have B6 := Lib.hid (bTrans (bTrans B5.out HB.out) hb6)
      clear hb6
      go_wp2_with fail
      go_ret
      exact ⟨rfl, B6.out⟩
set_option maxHeartbeats 1000000 in
theorem begins_no (a : Option Addr) (l : List Obj) (c : Nat) (b : Option Addr) (z : List Int) (d : Nat) (w : World) (hl : RdO w a l) (hnd : ∀ o ∈ l, o.needs.length ≤ maxLen) (hm : l.length ≤ maxLen) (ho : Rd w b z.length (i64s z)) (hz : z.length ≤ maxLen) (h : shortB l 20 = false ∨ rightB z l.length = false) :
    Calls Try.prog 4 #[.slice a l.length c, .slice b z.length d] w fun e w' => e = .returned (.bool true) ∧ Below w.heap.size w w' := by
  have hm' := max_le hm
  have hz' := max_le hz
  have HL := Lib.hid hl
  have HO := Lib.hid ho
  have HSH := Lib.hid (fun W (hW : RdO W a l) => short_any a l c 20 W hW hm (by omega) hnd)
  have HRI := Lib.hid (fun W (hW : Rd W b z.length (i64s z)) => right_any b z z.length d l.length W hW hz' hm')
  obtain ⟨s, hs⟩ : ∃ s, shortB l 20 = s := ⟨_, rfl⟩
  obtain ⟨r, hr⟩ : ∃ r, rightB z l.length = r := ⟨_, rfl⟩
  rw [hs] at h HSH
  rw [hr] at h HRI
  clear hl hnd ho hs hr hm hz
  obtain ⟨m, hlm⟩ : ∃ m, l.length = m := ⟨_, rfl⟩
  obtain ⟨q, hq⟩ : ∃ q, z.length = q := ⟨_, rfl⟩
  rw [hlm] at hm' HSH HRI ⊢
  rw [hq] at hz' HO HRI ⊢
  clear hlm hq
  go_enter Try.func4, Try.ntmps4
  go_wp2_with fail
  refine (awake_any _).mono ?_; rintro e w1 ⟨rfl, hb1⟩
  have B1 := Lib.hid hb1
  clear hb1
  go_wp2_with fail
  refine (HSH.out _ (HL.out.below B1.out)).mono ?_; rintro e w2 ⟨rfl, rfl⟩
  go_wp2_with fail
  refine (HRI.out _ (HO.out.below B1.out)).mono ?_; rintro e w2 ⟨rfl, hb2⟩
  have B2 := Lib.hid (bTrans B1.out hb2)
  clear hb2 B1 HSH HRI
  cases s with
  | false =>
    go_wp2_with fail
    go_ret
    exact ⟨rfl, B2.out⟩
  | true =>
    cases r with
    | false =>
      go_wp2_with fail
      go_ret
      exact ⟨rfl, B2.out⟩
    | true => rcases h with h | h <;> cases h
theorem GraphBegins_walk (a : Option Addr) (l : List Obj) (c : Nat) (b : Option Addr) (z : List Int) (d : Nat) (w : World) (hl : RdO w a l) (hn : (∀ o ∈ l, o.name.length ≤ maxLen ∧ ∀ n ∈ o.needs, n.length ≤ maxLen) ∧ ∀ o ∈ l, o.needs.length ≤ maxLen) (hm : l.length ≤ maxLen) (ho : Rd w b z.length (i64s z)) (hz : z.length ≤ maxLen) :
    Calls Try.prog 4 #[.slice a l.length c, .slice b z.length d] w fun e w' => e = .returned (.bool true) ∧ Below w.heap.size w w' := by
  by_cases hs : shortB l 20 = true
  · by_cases hr : rightB z l.length = true
    · obtain ⟨hnm, hm20⟩ := short_named hs hn.1
      obtain ⟨ord, rfl, hord, hol⟩ := right_ord hr
      rw [ordZ_length] at ho ⊢
      exact begins_yes a l c b ord d w hl hs hnm hm20 ho hr hord (by omega)
    · exact begins_no a l c b z d w hl hn.2 hm ho hz (Or.inr ((Bool.not_eq_true _).mp hr))
  · exact begins_no a l c b z d w hl hn.2 hm ho hz (Or.inl ((Bool.not_eq_true _).mp hs))
end Go.Proofs.Ytcafommklmepgaa
