/- begin: its contract; Begin's. -/
import Derived.Test.YtfneikphgmjfbaaGrG
namespace Go.Proofs.Ytfneikphgmjfbaa
set_option linter.unusedVariables false
set_option linter.unusedSimpArgs false
open Go.Joins Go.ChangeShapes Go.WideShapes Go.ChangeAt Go.RowKit

theorem needsI_take (l : List Obj) (k : Nat) (x : Obj) (hk : k < l.length) (hx : l[k] = x) (j : Nat) (hj : j < x.needs.length) : (needsI l k).take (j + 1) = (needsI l k).take j ++ [fidx l x.needs[j]] := by
  have e : needsI l k = x.needs.map (fidx l) := by unfold needsI; rw [needsAt_eq l k hk, hx]
  rw [e, List.take_succ_eq_append_getElem (by simpa using hj)]
  simp
theorem needsI_all (l : List Obj) (k : Nat) (x : Obj) (hk : k < l.length) (hx : l[k] = x) (j : Nat) (hj : x.needs.length ≤ j) : (needsI l k).take j = needsI l k := by
  have e : needsI l k = x.needs.map (fidx l) := by unfold needsI; rw [needsAt_eq l k hk, hx]
  rw [List.take_of_length_le (by rw [e]; simpa using hj)]
def BegPost (w0 : World) (B2 bl bw bm bf bb mb mw : Nat) (a : Option Addr) (c : Nat) (l : List Obj) (ord met out : List Nat) (ks : List (Option Nat)) (e : Ending) (w' : World) : Prop :=
  e = .returned (.tuple #[]) ∧ ∃ m1 o1, Vis l ord met out ks m1 o1 ∧ BegAt w0 w' B2 bl bw bm bf bb mb mw a c l ord m1 o1
theorem begin1_skip (w0 : World) (B2 bl bw bm bf bb mb mw : Nat) (a : Option Addr) (c : Nat) (l : List Obj) (ord met out : List Nat) (k : Nat) (W : World) (hm : l.length ≤ 1000000) (h : BegAt w0 W B2 bl bw bm bf bb mb mw a c l ord met out) (hw : waitB l ord met k = false) (hk : k < l.length) :
    Calls Try.prog 46 #[.int .i64 (k : Int), .pointer (some ⟨bl, 0, none⟩), .pointer (some ⟨bw, 0, none⟩), .pointer (some ⟨bm, 0, none⟩), .pointer (some ⟨bf, 0, none⟩), .pointer (some ⟨bb, 0, none⟩)] W (BegPost w0 B2 bl bw bm bf bb mb mw a c l ord met out [some k]) := by
  have H := Lib.hid h
  obtain ⟨-, -, ⟨c1, c2, c3, c4, c5⟩, -, ⟨m1, m2⟩, -, -, -⟩ := h
  have hmk := m2 k hk
  rw [hw] at hmk
  have HV := Lib.hid (Vis.skip (o := out) hw (Vis.nil met out))
  obtain ⟨m, hlm⟩ : ∃ m, l.length = m := ⟨_, rfl⟩
  rw [hlm] at c1 c2 hk hm
  have d1 : decide ((k : Int) < 0) = false := decide_eq_false (by omega)
  have d2 : decide ((m : Int) ≤ (k : Int)) = false := decide_eq_false (by omega)
  clear m1 m2 hw hlm
  go_enter Try.func46, Try.ntmps46
  go_wp2_with fail
  exact bodyPost_ret (results_none rfl _ _ _) rfl ⟨rfl, met, out, HV.out, H.out⟩
set_option maxRecDepth 100000 in
set_option maxHeartbeats 4000000 in
theorem begin1_any (w0 : World) (B2 bl bw bm bf bb mb mw : Nat) (a : Option Addr) (c : Nat) (l : List Obj) (ord : List Nat) (hl : RdO w0 a l) (hm : l.length ≤ 1000000) (hnm : Named l) (n : Nat) :
    ∀ (met out : List Nat) (k : Nat) (W : World), BegAt w0 W B2 bl bw bm bf bb mb mw a c l ord met out → waits l ord met ≤ n → k < l.length →
    Calls Try.prog 46 #[.int .i64 (k : Int), .pointer (some ⟨bl, 0, none⟩), .pointer (some ⟨bw, 0, none⟩), .pointer (some ⟨bm, 0, none⟩), .pointer (some ⟨bf, 0, none⟩), .pointer (some ⟨bb, 0, none⟩)] W (BegPost w0 B2 bl bw bm bf bb mb mw a c l ord met out [some k]) := by
  have HL := Lib.hid hl
  have HN := Lib.hid hnm
  clear hl hnm
  induction n with
  | zero =>
    intro met out k W h hn hk
    refine begin1_skip w0 B2 bl bw bm bf bb mb mw a c l ord met out k W hm h ?_ hk
    rw [Bool.eq_false_iff]
    intro hw
    have := waits_add hw
    omega
  | succ n ih =>
    intro met out k W h hn hk
    by_cases hw : waitB l ord met k = true
    · have hn2 : waits l ord (met ++ [k]) ≤ n := by have := waits_add hw; omega
      have HMARK := Lib.hid (h.mark hw)
      have HG0 := Lib.hid h.2.2.2.2.2.2.2
      have HIH := Lib.hid ih
      have HW := Lib.hid hw
      have HN2 := Lib.hid hn2
      have HK := Lib.hid hk
      obtain ⟨-, -, ⟨c1, c2, c3, c4, c5⟩, -, ⟨m1, m2⟩, -, hbel, -⟩ := h
      have hmk := m2 k hk
      rw [hw] at hmk
      have hmf := m1 k
      obtain ⟨B, off, rfl, hc⟩ := (HL.out.below HMARK.out.2.2.2.2.2.2.1).at_ hk
      have hxm := List.getElem_mem hk
      have hnn := HN.out _ hxm
      generalize hx : l[k] = x at hc hnn hxm
      have HX := Lib.hid hx
      have HXM := Lib.hid hxm
      have HNN := Lib.hid hnn
      have hnl := hnn.2.1
      obtain ⟨-, g1, -⟩ := hc
      obtain ⟨m, hlm⟩ : ∃ m, l.length = m := ⟨_, rfl⟩
      have HLM := Lib.hid hlm
      rw [hlm] at c1 c2 hk
      have hm2 := hm
      rw [hlm] at hm2
      have d1 : decide ((k : Int) < 0) = false := decide_eq_false (by omega)
      have d2 : decide ((m : Int) ≤ (k : Int)) = false := decide_eq_false (by omega)
      have d3 : decide (m ≤ k) = false := decide_eq_false (by omega)
      obtain ⟨q, hq⟩ : ∃ q, x.needs.length = q := ⟨_, rfl⟩
      rw [hq] at g1 hnl
      have HQ := Lib.hid hq
      have hne := HMARK.out.2.1
      have hcl : (W.setCell ⟨mw, k, none⟩ (.bool false)).cell? ⟨bl, 0, none⟩ = some (.slice (some ⟨B, off, none⟩) m c) := by have := HMARK.out.2.2.1.1; rw [hlm] at this; exact this
      clear m1 m2 hw hlm hq hx hxm hnn ih hn hn2 hbel
      go_enter Try.func46, Try.ntmps46
      go_wp2_with fail
      clear c1 c2 c3 c4 c5 hmk hmf g1 hcl hne d1 d2 d3
      go_loopw [35] (fun i wr => ∃ (j : Nat) (m1 o1 : List Nat), i = .int .i64 j ∧ j ≤ q ∧ Hid (Vis l ord (met ++ [k]) out ((needsI l k).take j) m1 o1) ∧ Hid (BegAt w0 wr B2 bl bw bm bf bb mb mw (some ⟨B, off, none⟩) c l ord m1 o1)) (fun i _ => q - (intOf i).toNat)
      case atStart => exact ⟨0, met ++ [k], out, rfl, by omega, Lib.hid (by rw [List.take_zero]; exact Vis.nil _ _), HMARK⟩
      case round =>
        obtain ⟨j, m1, o1, rfl, hj, HV, HB⟩ := hrel
        have hgo := HB.out.2.2.2.2.2.2.2.le
        by_cases hjq : j < q
        · have hjn : j < x.needs.length := by rw [HQ.out]; exact hjq
          obtain ⟨nb, noff, hne, -, hnc⟩ := ((HL.out.below HB.out.2.2.2.2.2.2.1).2 x HXM.out).at_ hjn
          rw [txs_get x.needs j hjn] at hnc
          have hnlen := HNN.out.2.2 _ (List.getElem_mem hjn)
          have htk := needsI_take l k x HK.out HX.out j hjn
          generalize x.needs[j] = nm at hnc hnlen htk
          have HTK := Lib.hid htk
          have hr := map_lookup wr mb l nm HB.out.2.2.2.1 hnlen 74 rfl
          obtain ⟨-, -, ⟨c1, c2, c3, c4, c5⟩, -, -, -, -, -⟩ := HB.out
          rw [HLM.out] at c1
          clear htk
          cases hf : fidx l nm with
          | none =>
            rw [hf] at hr
            have hv2 : Vis l ord (met ++ [k]) out ((needsI l k).take (j + 1)) m1 o1 := by rw [HTK.out, hf]; exact HV.out.snoc (.none (.nil _ _))
            have HV2 := Lib.hid hv2
            clear hf hv2
            simp only [Option.getD_none, Option.isSome_none] at hr
            go_wp2_with fail
            go_roundw
            case rel => exact ⟨j + 1, m1, o1, by go_num, by omega, HV2, HB⟩
            case measure => simp [intOf]; omega
          | some k1 =>
            rw [hf] at hr
            have hk1 := fidx_lt hf
            have hwn : waits l ord m1 ≤ n := Nat.le_trans (waits_mono HV.out.sub) HN2.out
            have HC := Lib.hid (HIH.out m1 o1 k1 wr HB.out hwn hk1)
            have HTK2 := Lib.hid (show (needsI l k).take (j + 1) = (needsI l k).take j ++ [some k1] by rw [HTK.out, hf])
            clear hf hk1 hwn
            simp only [Option.getD_some, Option.isSome_some] at hr
            go_wp2_with fail
            refine HC.out.mono ?_; rintro e w2 ⟨rfl, m2, o2, hv, hbg⟩
            have HV2 := Lib.hid (show Vis l ord (met ++ [k]) out ((needsI l k).take (j + 1)) m2 o2 by rw [HTK2.out]; exact HV.out.snoc hv)
            have HB2 := Lib.hid hbg
            clear hv hbg hr c1 c2 c3 c4 c5 hnc hne
            go_wp2_with fail
            go_roundw
            case rel => exact ⟨j + 1, m2, o2, by go_num, by omega, HV2, HB2⟩
            case measure => simp [intOf]; omega
        · have hall := needsI_all l k x HK.out HX.out j (by rw [HQ.out]; omega)
          have hv := HV.out
          rw [hall] at hv
          have hfin : Vis l ord met out [some k] m1 (o1 ++ [k]) := .go HW.out hv (.nil _ _)
          have hko : k ∉ o1 := by
            intro hko
            have hg0 := HG0.out.vis hfin
            have := hg0.2.2.1
            rw [List.nodup_append] at this
            exact this.2.2 k hko k (by simp) rfl
          have hgood := HG0.out.vis hfin
          have HG := Lib.hid hgood
          have HFIN := Lib.hid hfin
          obtain ⟨-, -, -, -, -, ⟨v, hv, ho⟩, -, -⟩ := HB.out
          have hbf := HB.out.2.2.1.2.2.2.2
          have HO := Lib.hid ho
          have HV0 := Lib.hid hv
          have hsz := HB.out.1.2.2.2.2.2.2.2.2.2.2
          have hbb := HB.out.1.2.2.2.2.2.2.2.1
          have HLT := Lib.hid (fun q (hq : v.ownBlock = some q) => (ho.lt q hq).1)
          obtain ⟨i0', hz⟩ := info_parts infoInt
          have HI := Lib.hid hz
          clear hall hfin hko hgood ho hz
          go_wp2_with (at_builtin; refine wpList_append_own _ rfl _ _ 26 rfl B2 3 i0' (.int .i64 0) 1 8 Try.underlying26 HI.out.1 HI.out.2.1 HI.out.2.2.1 HI.out.2.2.2 rfl (by decide) v o1.length _ rfl (HO.out.alloc _) ⟨wr.heap.size, 0, none⟩ 1 1 [.int .i64 (k : Int)] rfl rfl (cell_one_new _ _ _) (fun x hx => by simp at hx; subst hx; rfl) (by unfold maxLen; omega) (by omega) (by simp; omega) ?_; intro v' w3 hown' hgrow3 hnil3; obtain ⟨a', c', rfl, hl'⟩ := own_slice hown'; have hbo := grown_old hgrow3 (b := bb) (by omega) (fun e => by have := HLT.out bb e; omega) 0; have hb0 := hbo.1.trans HV0.out; have hb1 := hbo.2.trans hbf; have HOW := Lib.hid hown'; clear hnil3 hown' hbo)
          go_end0
          exact ⟨rfl, m1, o1 ++ [k], HFIN.out, HB.out.push _ hgrow3 HV0.out HLT.out (by have := HOW.out; simpa [ordZ, i64s] using this) HG.out⟩
    · exact begin1_skip w0 B2 bl bw bm bf bb mb mw a c l ord met out k W hm h ((Bool.not_eq_true _).mp hw) hk
end Go.Proofs.Ytfneikphgmjfbaa
