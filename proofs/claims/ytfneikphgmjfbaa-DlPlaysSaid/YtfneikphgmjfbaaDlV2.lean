/- The document's Closure, once more: its order lies in a row of its own. -/
import Derived.Test.YtfneikphgmjfbaaDlY
namespace Go.Proofs.Ytfneikphgmjfbaa
set_option linter.unusedVariables false
set_option linter.unusedSimpArgs false
open Go.Joins Go.ChangeShapes Go.WideShapes Go.ChangeAt Go.RowKit

set_option maxRecDepth 100000 in
set_option maxHeartbeats 4000000 in
theorem rclosure_own (a : Option Addr) (l : List Obj) (c : Nat) (root : List UInt8) (w : World) (hl : RdO w a l) (hm : l.length ≤ 1000000) (hnm : Named l) :
    Calls Try.prog 31 #[.slice a l.length c, .string ⟨root.toArray⟩] w (ClosPostO w l root) := by
  have HL := Lib.hid hl
  have HN := Lib.hid hnm
  have HFI := Lib.hid (fun n W (hW : RdO W a l) => rfind_any a l c n W hW hm)
  obtain ⟨i0', hz⟩ := info_parts infoInt
  have HI := Lib.hid hz
  clear hl hnm hz
  obtain ⟨m, hlm⟩ : ∃ m, l.length = m := ⟨_, rfl⟩
  rw [hlm] at hm HFI ⊢
  have HLM := Lib.hid hlm
  clear hlm
  cases hf : fidx l root with
  | none =>
    have hR : closR l root = .inr root := by unfold closR; rw [hf]
    have HR := Lib.hid hR
    have HF := Lib.hid (findO_none hf)
    clear hf hR
    go_enter Try.func31, Try.ntmps31
    go_wp2_with fail
    refine (HFI.out root _ HL.out).mono ?_; rintro e w' ⟨rfl, rfl⟩
    rw [HF.out]
    go_wp2_with fail
    go_ret3
    exact closO_no HR.out rfl (Below.refl _ _)
  | some k0 =>
    have hk0 := fidx_lt hf
    have hR : closR l root = closF l (l.length + 1) [k0] 0 := by unfold closR; rw [hf]
    obtain ⟨R, hRR⟩ : ∃ R, closF l (l.length + 1) [k0] 0 = R := ⟨_, rfl⟩
    rw [hRR] at hR
    have HR := Lib.hid hR
    have HRR := Lib.hid hRR
    have HO := Lib.hid (Ord.one hk0)
    have HF := Lib.hid (findO_some hf)
    have hlit := World.ownsRow_lit (base := w.heap.size) (e := 3) (size := 1) w #[.int .i64 (k0 : Int)] 1 (Nat.le_refl _) (by decide) rfl
    have HLIT := Lib.hid hlit
    clear hf hR hRR hk0 hlit
    go_enter Try.func31, Try.ntmps31
    go_wp2_with fail
    refine (HFI.out root _ HL.out).mono ?_; rintro e w' ⟨rfl, rfl⟩
    rw [HF.out]
    go_wp2_with fail
    go_loopw [8, 9] (fun v i wr => ∃ (i0 f : Nat) (o : List Nat), i = .int .i64 i0 ∧ i0 ≤ o.length ∧ Hid (closF l f o i0 = R) ∧ Hid (m < i0 + f) ∧ Hid (Ord l o) ∧ Hid (wr.ownsRow w.heap.size 3 1 v o.length (i64s (ordZ o))) ∧ Hid (Below w.heap.size w wr)) (fun _ i _ => m - (intOf i).toNat)
    case atStart => exact ⟨0, l.length + 1, [k0], rfl, by simp, HRR, Lib.hid (by rw [HLM.out]; omega), HO, HLIT, Lib.hid (bAlloc (Below.refl _ _) _)⟩
    case round =>
      obtain ⟨i0, f, o, rfl, hio, HF2, HFU, HOR, HOW, HBW⟩ := hrel
      obtain ⟨ao, co, hveq, -⟩ := own_slice HOW.out
      have hol := HOR.out.le
      rw [HLM.out] at hol
      subst hveq
      have HRD := Lib.hid (Rd.of_own HOW.out)
      by_cases hlt : i0 < o.length
      · obtain ⟨kk, hkk⟩ : ∃ kk, o[i0] = kk := ⟨_, rfl⟩
        have hkl : kk < l.length := by rw [← hkk]; exact HOR.out.2 _ (List.getElem_mem hlt)
        obtain ⟨bo', oo, rfl, -, hoc⟩ := HRD.out.at_ hlt
        rw [ordZ_get o i0 hlt, hkk] at hoc
        obtain ⟨B, off, rfl, hc⟩ := (HL.out.below HBW.out).at_ hkl
        have hxm := List.getElem_mem hkl
        have hnn := HN.out _ hxm
        have hna := needsAt_eq l kk hkl
        obtain ⟨f, rfl⟩ : ∃ f', f = f' + 1 := ⟨f - 1, by have := HFU.out; omega⟩
        have hst := closF_step l f o i0 hlt
        rw [hkk, hna] at hst
        obtain ⟨x, hx⟩ : ∃ x, l[kk] = x := ⟨_, rfl⟩
        rw [hx] at hc hnn hst hxm
        have HXM := Lib.hid hxm
        rw [HF2.out] at hst
        have HST := Lib.hid hst
        have HNN := Lib.hid hnn
        have HC7 := Lib.hid hc
        obtain ⟨g0, g1, g2, g3, g4, g5, g6⟩ := hc
        have kk0 : (0 : Int) ≤ (kk : Int) := by omega
        have kk1 : (kk : Int) < (m : Int) := by have := HLM.out; omega
        have hnl := hnn.2.1
        clear hst hnn hx hna hxm hkk hkl
        obtain ⟨q, hq⟩ : ∃ q, x.needs.length = q := ⟨_, rfl⟩
        rw [hq] at g1 hnl
        have HQ := Lib.hid hq
        have hbx := boxed (w := wr) (cs := #[.string ⟨x.name.toArray⟩, .slice x.na q x.nc, .slice x.v2 x.n2 x.c2, .slice x.v3 x.n3 x.c3, .slice x.v4 x.n4 x.c4, .slice x.v5 x.n5 x.c5, .slice x.v6 x.n6 x.c6]) (t := 54) (Below.refl _ _) 1
        have HBX := Lib.hid (hbx.trans rfl)
        have hlto := fun g hg => (HOW.out.lt g hg).2
        have HLTO := Lib.hid hlto
        clear hq hbx hlto
        go_wp2_with fail
        clear hoc g0 g1 g2 g3 g4 g5 g6
        have HOW1 := Lib.hid (HOW.out.alloc (.cells #[.string ⟨x.name.toArray⟩, .slice x.na q x.nc, .slice x.v2 x.n2 x.c2, .slice x.v3 x.n3 x.c3, .slice x.v4 x.n4 x.c4, .slice x.v5 x.n5 x.c5, .slice x.v6 x.n6 x.c6] 54))
        have HBW1 := Lib.hid (bAlloc HBW.out (.cells #[.string ⟨x.name.toArray⟩, .slice x.na q x.nc, .slice x.v2 x.n2 x.c2, .slice x.v3 x.n3 x.c3, .slice x.v4 x.n4 x.c4, .slice x.v5 x.n5 x.c5, .slice x.v6 x.n6 x.c6] 54))
        obtain ⟨X, hX⟩ : ∃ X, wr.heap.size = X := ⟨_, rfl⟩
        rw [hX] at HBX HLTO ⊢
        have hwX : w.heap.size ≤ X := by rw [← hX]; exact HBW.out.size
        have hX1 : X < (wr.alloc (.cells #[.string ⟨x.name.toArray⟩, .slice x.na q x.nc, .slice x.v2 x.n2 x.c2, .slice x.v3 x.n3 x.c3, .slice x.v4 x.n4 x.c4, .slice x.v5 x.n5 x.c5, .slice x.v6 x.n6 x.c6] 54)).heap.size := by rw [size_alloc]; omega
        have HX1 := Lib.hid hX1
        clear hX hX1
        go_loopw [8, 11] (fun v i wr => ∃ (j : Nat) (o' : List Nat), i = .int .i64 j ∧ j ≤ q ∧ o.length ≤ o'.length ∧ Hid (stepN l o' (x.needs.drop j) = stepN l o x.needs) ∧ Hid (Ord l o') ∧ Hid (wr.ownsRow w.heap.size 3 1 v o'.length (i64s (ordZ o'))) ∧ Hid (Below w.heap.size w wr) ∧ Hid (wr.cell? ⟨X, 1, none⟩ = some (.slice x.na q x.nc)) ∧ Hid (∀ g, v.ownBlock = some g → g ≠ X) ∧ Hid (X < wr.heap.size)) (fun _ i _ => q - (intOf i).toNat)
        case atStart => exact ⟨0, o, rfl, by omega, Nat.le_refl _, Lib.hid (by rw [List.drop_zero]), HOR, HOW1, HBW1, HBX, Lib.hid (fun g hg => by have := HLTO.out g hg; omega), HX1⟩
        case round =>
          obtain ⟨j, o', rfl, hj, hoo, HT, HO2, HW2, HB3, HXC, HXB, HXS⟩ := hrel
          obtain ⟨a2, c2, hveq2, -⟩ := own_slice HW2.out
          subst hveq2
          have hxc := HXC.out
          by_cases hjq : j < q
          · have hjn : j < x.needs.length := by rw [HQ.out]; exact hjq
            obtain ⟨nb, noff, hne, -, hnc⟩ := ((HL.out.below HB3.out).2 x HXM.out).at_ hjn
            rw [txs_get x.needs j hjn] at hnc
            obtain ⟨n, hn⟩ : ∃ n, x.needs[j] = n := ⟨_, rfl⟩
            rw [hn] at hnc
            have hno := stepN_no l o' x.needs j hjn
            have hye := fun k => stepN_yes l o' x.needs j k hjn
            rw [hn] at hno hye
            have HNO := Lib.hid hno
            have HYE := Lib.hid hye
            have hol' := HO2.out.le
            rw [HLM.out] at hol'
            rw [hne] at hxc
            clear hno hye hn hne
            go_wp2_with fail
            refine (HFI.out n _ (HL.out.below HB3.out)).mono ?_; rintro e w3 ⟨rfl, rfl⟩
            cases hf : fidx l n with
            | none =>
              rw [findO_none hf]
              have hT := HT.out
              rw [HNO.out hf] at hT
              have hst := HST.out
              rw [← hT] at hst
              have HR3 := Lib.hid (show closR l root = .inr n from HR.out.trans hst)
              clear hf hT hst
              go_wp2_with fail
              go_quiet (fail)
              go_wp2_with fail
              go_ret3
              exact closO_no HR3.out rfl (bDrewN HB3.out _)
            | some k1 =>
              rw [findO_some hf]
              have hk1 := fidx_lt hf
              have hT := HT.out
              rw [HYE.out k1 hf] at hT
              have HT2 := Lib.hid hT
              have HO3 := Lib.hid (HO2.out.add hk1)
              have HHAS := Lib.hid (has_any a2 (ordZ o') o'.length c2 (k1 : Int) _ (Rd.of_own HW2.out) (by omega))
              rw [ordZ_contains] at HHAS
              clear hf hT
              go_wp2_with fail
              refine HHAS.out.mono ?_; rintro e w4 ⟨rfl, rfl⟩
              by_cases hcn : o'.contains k1 = true
              · have ha : addO o' (some k1) = o' := by simp only [addO]; rw [if_pos hcn]
                rw [ha] at HT2 HO3
                rw [hcn]
                clear ha hcn HHAS
                go_wp2_with fail
                go_roundw
                case rel => exact ⟨j + 1, o', by go_num, by omega, by omega, HT2, HO3, HW2, HB3, HXC, HXB, HXS⟩
                case measure => simp [intOf]; omega
              · have ha : addO o' (some k1) = o' ++ [k1] := by simp only [addO]; rw [if_neg hcn]
                rw [ha] at HT2 HO3
                rw [(Bool.not_eq_true _).mp hcn]
                have hsz := HB3.out.size
                clear ha hcn HHAS
                go_wp2_with (at_builtin; refine wpList_append_own_at _ rfl _ _ 26 rfl w.heap.size 3 i0' (.int .i64 0) 1 8 Try.underlying26 HI.out.1 HI.out.2.1 HI.out.2.2.1 HI.out.2.2.2 rfl (by decide) _ _ _ rfl (HW2.out.alloc _) ⟨wr.heap.size, 0, none⟩ 1 1 [.int .i64 (k1 : Int)] rfl rfl (cell_one_new _ _ _) (fun x hx => by simp at hx; subst hx; rfl) (by unfold maxLen; omega) (by omega) (by simp; omega) ?_; intro v' w5 hown' hgrow3 hnil3 hat3; clear hnil3)
                go_roundw
                case rel =>
                  refine ⟨j + 1, o' ++ [k1], by go_num, by omega, by simp; omega, HT2, HO3, Lib.hid (by simpa [ordZ, i64s] using hown'), Lib.hid ((bAlloc HB3.out _).grown hgrow3 (by rw [size_alloc]; omega) (fun g hg => (HW2.out.lt g hg).1)), Lib.hid ((grown_old hgrow3 HXS.out (fun e => HXB.out X e rfl) 1).1.trans HXC.out), Lib.hid (ownb_far hat3 HXB.out (by rw [size_alloc]; have := HXS.out; omega)), Lib.hid ?_⟩
                  have := hgrow3.size; rw [size_alloc] at this; have := HXS.out; omega
                case measure => simp [intOf]; omega
          · have hT := HT.out
            rw [stepN_nil l o' x.needs j (by rw [HQ.out]; omega)] at hT
            have hst := HST.out
            rw [← hT] at hst
            have HF3 := Lib.hid hst.symm
            clear hT hst
            go_wp2_with fail
            go_roundw
            case rel => exact ⟨i0 + 1, f, o', by go_num, by omega, HF3, Lib.hid (by have := HFU.out; omega), HO2, HW2, HB3⟩
            case measure => simp [intOf]; omega
      · have hR2 := HF2.out
        rw [closF_end l f o i0 (by omega)] at hR2
        have HR2 := Lib.hid hR2
        clear hR2
        go_wp2_with fail
        go_ret3
        exact closO_yes (HR.out.trans HR2.out.symm) rfl HOW.out HBW.out
theorem closO_valsO {w w' : World} {l : List Obj} {root : List UInt8} {e : Ending} (h : ClosPostO w l root e w') : ∃ a c, e = .returned (.tuple #[.slice a (closO l root).length c, .string ⟨(closN l root).toArray⟩, .int .i64 (closE l root)]) ∧ w'.ownsRow w.heap.size 3 1 (.slice a (closO l root).length c) (closO l root).length (i64s (ordZ (closO l root))) ∧ Below w.heap.size w w' := by
  obtain ⟨hb, hp⟩ := h
  unfold closO closN closE
  cases hc : closR l root with
  | inl o =>
    rw [hc] at hp
    obtain ⟨a, c, he, hr⟩ := hp
    exact ⟨a, c, he, hr, hb⟩
  | inr n =>
    rw [hc] at hp
    exact ⟨none, 0, hp, World.ownsRow_nil _ _ _ _, hb⟩
end Go.Proofs.Ytfneikphgmjfbaa
