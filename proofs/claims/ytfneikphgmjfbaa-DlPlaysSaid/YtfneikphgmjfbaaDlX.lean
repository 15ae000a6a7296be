/- Closure, once more: its order lies in a row of its own. -/
import Derived.Test.YtfneikphgmjfbaaDlG
namespace Go.Proofs.Ytfneikphgmjfbaa
set_option linter.unusedVariables false
set_option linter.unusedSimpArgs false
open Go.Joins Go.ChangeShapes Go.WideShapes Go.ChangeAt Go.RowKit

def ClosPostO (w : World) (l : List Obj) (root : List UInt8) (e : Ending) (w' : World) : Prop :=
  Below w.heap.size w w' ∧ match closR l root with
  | .inl o => ∃ a c, e = .returned (.tuple #[.slice a o.length c, .string ⟨#[]⟩, .int .i64 0]) ∧ w'.ownsRow w.heap.size 3 1 (.slice a o.length c) o.length (i64s (ordZ o))
  | .inr n => e = .returned (.tuple #[.slice none 0 0, .string ⟨n.toArray⟩, .int .i64 130])
theorem closO_no {w w' : World} {l : List Obj} {root n : List UInt8} {e : Ending} (h : closR l root = .inr n) (he : e = .returned (.tuple #[.slice none 0 0, .string ⟨n.toArray⟩, .int .i64 130])) (hb : Below w.heap.size w w') : ClosPostO w l root e w' := by
  refine ⟨hb, ?_⟩
  rw [h]; exact he
theorem closO_yes {w w' : World} {l : List Obj} {root : List UInt8} {o : List Nat} {e : Ending} {a : Option Addr} {c : Nat} (h : closR l root = .inl o) (he : e = .returned (.tuple #[.slice a o.length c, .string ⟨#[]⟩, .int .i64 0])) (hr : w'.ownsRow w.heap.size 3 1 (.slice a o.length c) o.length (i64s (ordZ o))) (hb : Below w.heap.size w w') : ClosPostO w l root e w' := by
  refine ⟨hb, ?_⟩
  rw [h]; exact ⟨a, c, he, hr⟩
set_option maxRecDepth 100000 in
set_option maxHeartbeats 4000000 in
theorem closure_own (a : Option Addr) (l : List Obj) (c : Nat) (root : List UInt8) (w : World) (hl : RdO w a l) (hm : l.length ≤ 1000000) (hnm : Named l) (hroot : root.length ≤ maxLen) :
    Calls Try.prog 29 #[.slice a l.length c, .string ⟨root.toArray⟩] w (ClosPostO w l root) := by
  have HL := Lib.hid hl
  have HN := Lib.hid hnm
  have HPL := Lib.hid (fun W (hW : RdO W a l) => places_any a l c W hW hm (fun o ho => (hnm o ho).1))
  have hmk := run_make_row' (P := Try.prog) 73 4 (.bool false) 1 Try.underlying73 (by kernel_rfl) rfl .i64 .i64 l.length (by omega) (by omega)
  clear hl hnm
  obtain ⟨m, hlm⟩ : ∃ m, l.length = m := ⟨_, rfl⟩
  rw [hlm] at hm HPL hmk ⊢
  have HLM := Lib.hid hlm
  clear hlm
  go_enter Try.func29, Try.ntmps29
  go_wp2_with fail
  refine (HPL.out _ (HL.out.below (bAlloc (Below.refl _ _) _))).mono ?_; rintro e w1 ⟨mb, rfl, hp, hmb, hb1⟩
  have hst := meet_start w w1 mb l 26 74 4 73 hb1 hp hmb
  rw [HLM.out] at hst
  have HST := Lib.hid hst
  clear hst hp hmb hb1
  go_wp2_with fail
  refine (meet_any _ _ _ _ _ _ _ l [] root _ HST.out.1 hroot (by rw [HLM.out]; exact hm) (by simp)).mono ?_; rintro e w2 ⟨rfl, hM, hb2⟩
  have HB2 := Lib.hid (HST.out.2.trans hb2)
  clear HST
  cases hf : fidx l root with
  | none =>
    rw [hf] at hM
    have hR : closR l root = .inr root := by unfold closR; rw [hf]
    have HR := Lib.hid hR
    obtain ⟨⟨h1, h2, h3, h4, h5, h6, h7, h8, h9⟩, -, ⟨c1, c2, c3⟩, -, -, v, hv, ho⟩ := hM
    clear hf hR hb2 ho
    simp only [Option.isSome_none]
    go_wp2_with fail
    have kc := World.cell?_setCell_same w2 ⟨w.heap.size, 0, none⟩ (.slice none 0 0) hv
    refine bodyPost_ret (v := .tuple #[.slice none 0 0, .string ⟨root.toArray⟩, .int .i64 130]) ?_ rfl (closO_no HR.out rfl (HB2.out.setCell (Nat.le_refl _) _))
    simp [results, Try.results29, go_sem, kc]
  | some k0 =>
    rw [hf] at hM
    have hk0 := fidx_lt hf
    have hR : closR l root = closF l (l.length + 1) [k0] 0 := by unfold closR; rw [hf]
    obtain ⟨R, hRR⟩ : ∃ R, closF l (l.length + 1) [k0] 0 = R := ⟨_, rfl⟩
    rw [hRR] at hR
    have HR := Lib.hid hR
    have HRR := Lib.hid hRR
    have HM := Lib.hid hM
    have HO := Lib.hid (Ord.one hk0)
    clear hf hR hb2 hRR hM hk0
    simp only [Option.isSome_some]
    generalize w1.heap.size = H at *
    go_wp2_with fail
    go_loopw [10] (fun i wr => ∃ (i0 f : Nat) (o : List Nat), i = .int .i64 i0 ∧ i0 ≤ o.length ∧ Hid (closF l f o i0 = R) ∧ Hid (m < i0 + f) ∧ Hid (Ord l o) ∧ Hid (MeetAt w.heap.size (H + 3) wr H (H + 2) w.heap.size mb (H + 1) l o) ∧ Hid (Below w.heap.size w wr)) (fun i _ => m - (intOf i).toNat)
    case atStart => exact ⟨0, l.length + 1, [k0], rfl, by simp, HRR, Lib.hid (by rw [HLM.out]; omega), HO, by simpa [addO] using HM, HB2⟩
    case round =>
      obtain ⟨i0, f, o, rfl, hio, HF, HFU, HOR, HMT, HBW⟩ := hrel
      obtain ⟨ao, co, hcv, hown, hrd⟩ := HMT.out.order
      have hol := HOR.out.le
      rw [HLM.out] at hol
      have HRD := Lib.hid hrd
      have HOWN := Lib.hid hown
      clear hrd hown
      by_cases hlt : i0 < o.length
      · obtain ⟨kk, hkk⟩ : ∃ kk, o[i0] = kk := ⟨_, rfl⟩
        have hkl : kk < l.length := by rw [← hkk]; exact HOR.out.2 _ (List.getElem_mem hlt)
        obtain ⟨bo', oo, rfl, -, hoc⟩ := HRD.out.at_ hlt
        rw [ordZ_get o i0 hlt, hkk] at hoc
        obtain ⟨B, off, rfl, hc⟩ := (HL.out.below HBW.out).at_ hkl
        have hxm := List.getElem_mem hkl
        have hnn := HN.out _ hxm
        have hna := needsAt_eq l kk hkl
        obtain ⟨f, rfl⟩ : ∃ f', f = f' + 1 := ⟨f - 1, by have := HFU.out; omega⟩
        have hst := closF_step l f o i0 hlt
        rw [hkk, hna] at hst
        obtain ⟨x, hx⟩ : ∃ x, l[kk] = x := ⟨_, rfl⟩
        rw [hx] at hc hnn hst hxm
        have HXM := Lib.hid hxm
        rw [HF.out] at hst
        have HST := Lib.hid hst
        have HNN := Lib.hid hnn
        obtain ⟨-, g1, -⟩ := hc
        have kk0 : (0 : Int) ≤ (kk : Int) := by omega
        have kk1 : (kk : Int) < (m : Int) := by have := HLM.out; omega
        have hnl := hnn.2.1
        clear hst hnn hx hna hxm hkk hkl
        obtain ⟨q, hq⟩ : ∃ q, x.needs.length = q := ⟨_, rfl⟩
        rw [hq] at g1 hnl
        have HQ := Lib.hid hq
        clear hq
        go_wp2_with fail
        clear hcv hoc g1
        obtain ⟨wo, rfl⟩ : ∃ wo : World, wo = wr := ⟨_, rfl⟩
        go_loopw [39] (fun i wr => ∃ (j : Nat) (o' : List Nat), i = .int .i64 j ∧ j ≤ q ∧ o.length ≤ o'.length ∧ Hid (stepN l o' (x.needs.drop j) = stepN l o x.needs) ∧ Hid (Ord l o') ∧ Hid (MeetAt w.heap.size (H + 3) wr H (H + 2) w.heap.size mb (H + 1) l o') ∧ Hid (Below w.heap.size w wr)) (fun i _ => q - (intOf i).toNat)
        case atStart => exact ⟨0, o, rfl, by omega, Nat.le_refl _, Lib.hid (by rw [List.drop_zero]), HOR, HMT, HBW⟩
        case round =>
          obtain ⟨j, o', rfl, hj, hoo, HT, HO2, HM2, HB3⟩ := hrel
          by_cases hjq : j < q
          · have hjn : j < x.needs.length := by rw [HQ.out]; exact hjq
            obtain ⟨nb, noff, hne, -, hnc⟩ := ((HL.out.below HB3.out).2 x HXM.out).at_ hjn
            rw [txs_get x.needs j hjn] at hnc
            have hnlen := HNN.out.2.2 _ (List.getElem_mem hjn)
            obtain ⟨n, hn⟩ : ∃ n, x.needs[j] = n := ⟨_, rfl⟩
            rw [hn] at hnc hnlen
            have hno := stepN_no l o' x.needs j hjn
            have hye := fun k => stepN_yes l o' x.needs j k hjn
            rw [hn] at hno hye
            have HNO := Lib.hid hno
            have HYE := Lib.hid hye
            have HNE := Lib.hid hne
            have hol' := HO2.out.le
            rw [HLM.out] at hol'
            clear hno hye hn
            go_wp2_with fail
            refine (meet_any _ _ _ _ _ _ _ l o' n _ HM2.out hnlen (by rw [HLM.out]; exact hm) (by omega)).mono ?_; rintro e w3 ⟨rfl, hM, hb3⟩
            have HB4 := Lib.hid (HB3.out.trans hb3)
            cases hf : fidx l n with
            | none =>
              rw [hf] at hM
              have hT := HT.out
              rw [HNO.out hf] at hT
              have hst := HST.out
              rw [← hT] at hst
              have HR3 := Lib.hid (show closR l root = .inr n from HR.out.trans hst)
              obtain ⟨-, -, ⟨-, -, c3⟩, -, -, v, hv, -⟩ := hM
              clear hf hT hst hb3 hnc hne
              simp only [Option.isSome_none]
              go_wp2_with fail
              have kc := World.cell?_setCell_same w3 ⟨w.heap.size, 0, none⟩ (.slice none 0 0) hv
              refine bodyPost_ret (v := .tuple #[.slice none 0 0, .string ⟨n.toArray⟩, .int .i64 130]) ?_ rfl (closO_no HR3.out rfl (HB4.out.setCell (Nat.le_refl _) _))
              simp [results, Try.results29, go_sem, kc]
            | some k1 =>
              rw [hf] at hM
              have hT := HT.out
              rw [HYE.out k1 hf] at hT
              have HT2 := Lib.hid hT
              have HM3 := Lib.hid hM
              have HO3 := Lib.hid (HO2.out.add (fidx_lt hf))
              have hge := addO_le o' (some k1)
              clear hf hT hM hb3 hnc hne
              simp only [Option.isSome_some]
              go_wp2_with fail
              go_roundw
              case rel => exact ⟨j + 1, addO o' (some k1), by go_num, by omega, by omega, HT2, HO3, HM3, HB4⟩
              case measure => simp [intOf]; omega
          · have hT := HT.out
            rw [stepN_nil l o' x.needs j (by rw [HQ.out]; omega)] at hT
            have hst := HST.out
            rw [← hT] at hst
            have HF2 := Lib.hid hst.symm
            clear hT hst
            go_wp2_with fail
            go_roundw
            case rel => exact ⟨i0 + 1, f, o', by go_num, by omega, HF2, Lib.hid (by have := HFU.out; omega), HO2, HM2, HB3⟩
            case measure => simp [intOf]; omega
      · have hR2 := HF.out
        rw [closF_end l f o i0 (by omega)] at hR2
        have HR2 := Lib.hid hR2
        have hfz := HMT.out.2.2.1.2.2
        clear hR2
        go_wp2_with fail
        have kc := World.cell?_setCell_same wr ⟨w.heap.size, 0, none⟩ (.slice ao o.length co) hcv
        refine bodyPost_ret (v := .tuple #[.slice ao o.length co, .string ⟨#[]⟩, .int .i64 0]) ?_ rfl (closO_yes (HR.out.trans HR2.out.symm) rfl ((own_kept_block HOWN.out fun g hg => Below.heap_setCell _ _ _ _ (by have := HMT.out.1; show g ≠ w.heap.size; omega)).mono (by have := HMT.out.1; omega)) (HBW.out.setCell (Nat.le_refl _) _))
        simp [results, Try.results29, go_sem, kc]
end Go.Proofs.Ytfneikphgmjfbaa
