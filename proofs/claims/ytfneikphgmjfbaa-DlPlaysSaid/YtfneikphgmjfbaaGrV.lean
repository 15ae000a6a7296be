/- The document's Needs and Reach: contracts. -/
import Derived.Test.YtfneikphgmjfbaaGrU
namespace Go.Proofs.Ytfneikphgmjfbaa
set_option linter.unusedVariables false
set_option linter.unusedSimpArgs false
open Go.Joins Go.ChangeShapes Go.WideShapes Go.ChangeAt Go.RowKit

theorem needsI_drop (l : List Obj) (k : Nat) (x : Obj) (hk : k < l.length) (hx : l[k] = x) (j : Nat) (hj : j < x.needs.length) : (needsI l k).drop j = fidx l x.needs[j] :: (needsI l k).drop (j + 1) := by
  have e : needsI l k = x.needs.map (fidx l) := by unfold needsI; rw [needsAt_eq l k hk, hx]
  rw [e, List.drop_eq_getElem_cons (by simpa using hj)]
  simp
theorem needsI_none (l : List Obj) (k : Nat) (x : Obj) (hk : k < l.length) (hx : l[k] = x) (j : Nat) (hj : x.needs.length ≤ j) : (needsI l k).drop j = [] := by
  have e : needsI l k = x.needs.map (fidx l) := by unfold needsI; rw [needsAt_eq l k hk, hx]
  rw [List.drop_eq_nil_of_le (by rw [e]; simpa using hj)]
theorem find_is (l : List Obj) (nm : List UInt8) (j : Nat) : (findO l nm == (j : Int)) = (some j == fidx l nm) := by
  cases hf : fidx l nm with
  | none =>
    rw [findO_none hf, show (some j == (none : Option Nat)) = false from rfl, beq_eq_false_iff_ne]
    omega
  | some k =>
    rw [findO_some hf, Bool.eq_iff_iff, beq_iff_eq, beq_iff_eq]
    constructor
    · intro h; congr 1; omega
    · intro h; injection h with h; omega
set_option maxHeartbeats 1000000 in
theorem needs_any (a : Option Addr) (l : List Obj) (c i j : Nat) (w : World) (hl : RdO w a l) (hm : l.length ≤ 1000000) (hnm : Named l) (hi : i < l.length) :
    Calls Try.prog 25 #[.slice a l.length c, .int .i64 (i : Int), .int .i64 (j : Int)] w fun e w' => e = .returned (.bool (needsB l i j)) ∧ w = w' := by
  obtain ⟨r, hr⟩ : ∃ r, needsB l i j = r := ⟨_, rfl⟩
  rw [hr]
  have HR := Lib.hid (show ((needsI l i).drop 0).contains (some j) = r by rw [List.drop_zero]; exact hr)
  clear hr
  obtain ⟨B, off, rfl, hc⟩ := hl.at_ hi
  have hxm := List.getElem_mem hi
  have hnn := hnm _ hxm
  have HFI := Lib.hid (fun n => rfind_any (some ⟨B, off, none⟩) l c n w hl hm)
  have HL := Lib.hid hl
  generalize hx : l[i] = x at hc hxm hnn
  have HX := Lib.hid hx
  have HXM := Lib.hid hxm
  have HI := Lib.hid hi
  have hnl := hnn.2.1
  obtain ⟨-, g1, -⟩ := hc
  obtain ⟨q, hq⟩ : ∃ q, x.needs.length = q := ⟨_, rfl⟩
  rw [hq] at g1 hnl
  have HQ := Lib.hid hq
  obtain ⟨m, hlm⟩ : ∃ m, l.length = m := ⟨_, rfl⟩
  have him : i < m := by rw [← hlm]; exact hi
  rw [hlm] at hm HFI ⊢
  clear hl hnm hx hxm hnn hq hlm
  go_enter Try.func25, Try.ntmps25
  go_wp2_with fail
  go_loop [7] (fun v => ∃ t : Nat, t ≤ q ∧ v = .int .i64 t ∧ Hid (((needsI l i).drop t).contains (some j) = r)) (fun v => q - (intOf v).toNat)
  case atStart => exact ⟨0, by omega, rfl, HR⟩
  case round =>
    obtain ⟨t, ht, rfl, HT⟩ := hrel
    by_cases h : t < q
    · have hjn : t < x.needs.length := by rw [HQ.out]; exact h
      have he := HT.out
      rw [needsI_drop l i x HI.out HX.out t hjn, List.contains_cons] at he
      obtain ⟨nb, noff, hne, -, hnc⟩ := (HL.out.2 x HXM.out).at_ hjn
      rw [txs_get x.needs t hjn] at hnc
      generalize x.needs[t] = nm at he hnc
      rw [hne] at g1
      have hfi := find_is l nm j
      have HF := Lib.hid (HFI.out nm)
      generalize findO l nm = z at hfi HF
      rw [← hfi] at he
      have HE := Lib.hid he
      clear hfi he hne hjn
      by_cases hz : (z == (j : Int)) = true
      · go_wp2_with fail
        refine HF.out.mono ?_; rintro e w1 ⟨rfl, rfl⟩
        go_wp2_with fail
        go_ret
        refine ⟨ret_bool ?_, rfl⟩
        rw [← HE.out, hz, Bool.true_or]
      · rw [Bool.not_eq_true] at hz
        have e := HE.out
        rw [hz, Bool.false_or] at e
        have HE2 := Lib.hid e
        clear e
        go_wp2_with fail
        refine HF.out.mono ?_; rintro e w1 ⟨rfl, rfl⟩
        go_wp2_with fail
        go_round
        case rel => exact ⟨t + 1, by omega, by go_num, HE2⟩
        case measure => simp [intOf]; omega
    · have e := HT.out
      rw [needsI_none l i x HI.out HX.out t (by rw [HQ.out]; omega)] at e
      have HE := Lib.hid e
      clear e
      go_wp2_with fail
      go_ret
      exact ⟨ret_bool HE.out, rfl⟩
def InAt (w0 W : World) (mm : Nat) (l : List Obj) (o : List Nat) : Prop :=
  (w0.heap.size ≤ mm ∧ mm < W.heap.size) ∧ (∀ j, W.frozen? ⟨mm, j, none⟩ = false) ∧ (∀ k, k < l.length → W.cell? ⟨mm, k, none⟩ = some (.bool (o.contains k))) ∧ Below w0.heap.size w0 W
theorem InAt.set {w0 W : World} {mm : Nat} {l : List Obj} {o : List Nat} {k : Nat} (h : InAt w0 W mm l o) : InAt w0 (W.setCell ⟨mm, k, none⟩ (.bool true)) mm l (o ++ [k]) := by
  obtain ⟨⟨h1, h2⟩, h3, h4, h5⟩ := h
  refine ⟨⟨h1, by simpa using h2⟩, fun j => by rw [World.frozen?_setCell]; exact h3 j, fun j hj => ?_, h5.setCell (p := ⟨mm, k, none⟩) h1 _⟩
  by_cases e : k = j
  · subst e
    rw [World.cell?_setCell_same _ _ _ (h4 k hj)]
    simp
  · rw [World.cell?_setCell_other _ _ _ _ (by simp [e]), h4 j hj]
    have e' : ¬ j = k := fun q => e q.symm
    simp [e']
theorem InAt.grown {w0 W W2 : World} {mm : Nat} {l : List Obj} {o : List Nat} {v : Value} (h : InAt w0 W mm l o) (ob : Go.Obj) (hgr : (W.alloc ob).grownBy W2 v.ownBlock) (hvo : ∀ q, v.ownBlock = some q → mm + 1 ≤ q) : InAt w0 W2 mm l o := by
  obtain ⟨⟨h1, h2⟩, h3, h4, h5⟩ := h
  have old := fun j => grown_old hgr (b := mm) h2 (fun e => by have := hvo mm e; omega) j
  have hsz := hgr.size
  rw [size_alloc] at hsz
  refine ⟨⟨h1, by omega⟩, fun j => (old j).2.trans (h3 j), fun k hk => (old k).1.trans (h4 k hk), (h5.alloc h5.size ob).grown hgr (by rw [size_alloc]; omega) (fun q hq => by have := hvo q hq; omega)⟩
theorem InAt.start (w : World) (l : List Obj) (s : Nat) (t2 : TypeId) : InAt w (w.alloc (.cells ((madeCells #[.bool false] l.length).setIfInBounds s (.bool true)) t2)) w.heap.size l [s] := by
  rw [← setCell_new]
  have cm : ∀ k, k < l.length → (w.alloc (.cells (madeCells #[.bool false] l.length) t2)).cell? ⟨w.heap.size, k, none⟩ = some (.bool false) := fun k hk => cell_made _ _ _ _ _ _ rfl hk
  have h0 : InAt w (w.alloc (.cells (madeCells #[.bool false] l.length) t2)) w.heap.size l [] := ⟨⟨Nat.le_refl _, by simp⟩, fun j => frozen_new _ _ _ _ _ rfl, fun k hk => cm k hk, bAlloc (Below.refl _ _) _⟩
  exact h0.set
theorem range_snoc (k : Nat) (p : Nat → Bool) : (List.range (k + 1)).filter p = (List.range k).filter p ++ (if p k then [k] else []) := by
  rw [List.range_succ, List.filter_append]
  congr 1
  cases h : p k <;> simp [h]
theorem ord_range {l : List Obj} {m : Nat} (hm : m = l.length) (p : Nat → Bool) : Ord l ((List.range m).filter p) := by
  subst hm
  exact ⟨(rising_range _ _).imp fun {a b} h => by omega, fun k hk => List.mem_range.1 (List.mem_filter.1 hk).1⟩
set_option maxRecDepth 100000 in
set_option maxHeartbeats 4000000 in
theorem rreach_any (a : Option Addr) (l : List Obj) (c s : Nat) (w : World) (hl : RdO w a l) (hm : l.length ≤ 1000000) (hnm : Named l) (hs : s < l.length) :
    Calls Try.prog 26 #[.slice a l.length c, .int .i64 (s : Int)] w fun e w' => ∃ a' c' o, e = .returned (.slice a' o.length c') ∧ Rd w' a' o.length (i64s (ordZ o)) ∧ o.Pairwise (· < ·) ∧ (∀ k, k ∈ o ↔ RE l s k) ∧ Below w.heap.size w w' := by
  have HL := Lib.hid hl
  have HND := Lib.hid (fun i j W (hW : RdO W a l) (hi : i < l.length) => needs_any a l c i j W hW hm hnm hi)
  have HST := Lib.hid (InAt.start w l s 4)
  have HSN := Lib.hid (show SND l s [s] from fun k hk => by simp at hk; subst hk; exact ⟨.refl, hs⟩)
  have HRQ := Lib.hid (RQ.start (l := l) hs)
  have hmk := run_make_row' (P := Try.prog) 73 4 (.bool false) 1 Try.underlying73 (by kernel_rfl) rfl .i64 .i64 l.length (by omega) (by omega)
  have hcm := cell_made w l.length s (.bool false) 4 _ rfl hs
  have hfm := frozen_new w (madeCells #[.bool false] l.length) 4 _ s rfl
  obtain ⟨i0', hz⟩ := info_parts infoInt
  have HI := Lib.hid hz
  clear hl hnm hz
  obtain ⟨m, hlm⟩ : ∃ m, l.length = m := ⟨_, rfl⟩
  rw [hlm] at hm HND hmk hs hcm hfm HST ⊢
  have HLM := Lib.hid hlm
  have d1 : decide ((s : Int) < 0) = false := decide_eq_false (by omega)
  have d2 : decide ((m : Int) ≤ (s : Int)) = false := decide_eq_false (by omega)
  have d3 : decide (m ≤ s) = false := decide_eq_false (by omega)
  clear hlm
  go_enter Try.func26, Try.ntmps26
  go_wp2_with fail
  clear hmk hcm hfm d1 d2 d3 hs
  obtain ⟨H, hH⟩ : ∃ H, w.heap.size = H := ⟨_, rfl⟩
  have HH := Lib.hid hH
  rw [hH] at HST ⊢
  clear hH
  go_loopw [6] (fun v wr => ∃ (t : Nat) (o : List Nat), v = .int .i64 t ∧ t ≤ m ∧ Hid (SND l s o) ∧ Hid (RQ l o t) ∧ Hid (s ∈ o) ∧ Hid (InAt w wr H l o)) (fun v _ => m - (intOf v).toNat)
  case atStart => exact ⟨0, [s], rfl, by omega, HSN, HRQ, Lib.hid (by simp), HST⟩
  case round =>
    obtain ⟨t, o, rfl, ht, HS, HQ, HM, HA⟩ := hrel
    by_cases htm : t < m
    · go_wp2_with fail
      go_loopw [7] (fun v wr => ∃ (i : Nat) (o1 : List Nat), v = .int .i64 i ∧ i ≤ m ∧ Hid (RI l s o o1 i 0) ∧ Hid (InAt w wr H l o1)) (fun v _ => m - (intOf v).toNat)
      case atStart => exact ⟨0, o, rfl, by omega, Lib.hid (RI.start HS.out), HA⟩
      case round =>
        obtain ⟨i, o1, rfl, hi, HR1, HA1⟩ := hrel
        by_cases him : i < m
        · go_wp2_with fail
          go_loopw [8] (fun v wr => ∃ (j : Nat) (o2 : List Nat), v = .int .i64 j ∧ j ≤ m ∧ Hid (RI l s o o2 i j) ∧ Hid (InAt w wr H l o2)) (fun v _ => m - (intOf v).toNat)
          case atStart => exact ⟨0, o1, rfl, by omega, HR1, HA1⟩
          case round =>
            obtain ⟨j, o2, rfl, hj, HR2, HA2⟩ := hrel
            by_cases hjm : j < m
            · have hci := HA2.out.2.2.1 i (by rw [HLM.out]; exact him)
              have hcj := HA2.out.2.2.1 j (by rw [HLM.out]; exact hjm)
              have hfj := HA2.out.2.1 j
              have HC := Lib.hid (HND.out i j wr (HL.out.below HA2.out.2.2.2) him)
              cases hb : o2.contains i with
              | false =>
                rw [hb] at hci
                have HR3 := Lib.hid (HR2.out.keep (fun h => by rw [List.contains_iff_mem.2 h] at hb; cases hb))
                clear hb hcj hfj
                go_wp2_with fail
                go_roundw
                case rel => exact ⟨j + 1, o2, by go_num, by omega, HR3, HA2⟩
                case measure => simp [intOf]; omega
              | true =>
                rw [hb] at hci
                have HIO := Lib.hid (List.contains_iff_mem.1 hb)
                clear hb
                cases hn : needsB l i j with
                | false =>
                  rw [hn] at HC
                  have HR3 := Lib.hid (HR2.out.keep (fun _ h => by rw [(needsB_iff l i j).2 h] at hn; cases hn))
                  clear hn hcj hfj
                  go_wp2_with fail
                  refine HC.out.mono ?_; rintro e w3 ⟨rfl, rfl⟩
                  go_wp2_with fail
                  go_roundw
                  case rel => exact ⟨j + 1, o2, by go_num, by omega, HR3, HA2⟩
                  case measure => simp [intOf]; omega
                | true =>
                  rw [hn] at HC
                  have HR3 := Lib.hid (HR2.out.add HIO.out ((needsB_iff l i j).1 hn))
                  clear hn
                  go_wp2_with fail
                  refine HC.out.mono ?_; rintro e w3 ⟨rfl, rfl⟩
                  go_wp2_with fail
                  go_roundw
                  case rel => exact ⟨j + 1, o2 ++ [j], by go_num, by omega, HR3, Lib.hid HA2.out.set⟩
                  case measure => simp [intOf]; omega
            · have HR3 := Lib.hid (HR2.out.row (by rw [HLM.out]; omega))
              go_wp2_with fail
              go_roundw
              case rel => exact ⟨i + 1, o2, by go_num, by omega, HR3, HA2⟩
              case measure => simp [intOf]; omega
        · have hd := HR1.out.done (by rw [HLM.out]; omega) HS.out HQ.out
          have HS2 := Lib.hid hd.1
          have HQ2 := Lib.hid hd.2
          have HM2 := Lib.hid (HR1.out.2.1 s HM.out)
          clear hd
          go_wp2_with fail
          go_roundw
          case rel => exact ⟨t + 1, o1, by go_num, by omega, HS2, HQ2, HM2, HA1⟩
          case measure => simp [intOf]; omega
    · have HALL := Lib.hid (HQ.out.all (by rw [HLM.out]; omega) HM.out HS.out)
      go_wp2_with fail
      go_loopw [9, 10] (fun v i wr => ∃ k : Nat, i = .int .i64 k ∧ k ≤ m ∧ Hid (wr.ownsRow (H + 1) 3 1 v ((List.range k).filter o.contains).length (i64s (ordZ ((List.range k).filter o.contains)))) ∧ Hid (InAt w wr H l o)) (fun _ i _ => m - (intOf i).toNat)
      case atStart => exact ⟨0, rfl, by omega, Lib.hid (World.ownsRow_nil _ _ _ _), HA⟩
      case round =>
        obtain ⟨k, rfl, hk, HW, HA3⟩ := hrel
        have hfl : ((List.range k).filter o.contains).length ≤ k := by have := List.length_filter_le o.contains (List.range k); rwa [List.length_range] at this
        obtain ⟨ao, co, rfl, -⟩ := own_slice HW.out
        by_cases hkm : k < m
        · have hck := HA3.out.2.2.1 k (by rw [HLM.out]; exact hkm)
          have hrs := range_snoc k o.contains
          cases hb : o.contains k with
          | false =>
            rw [hb] at hck hrs
            simp only [Bool.false_eq_true, if_false, List.append_nil] at hrs
            have HRS := Lib.hid hrs
            clear hb hrs
            generalize (List.range k).filter o.contains = oo at *
            obtain ⟨X, hX⟩ : ∃ X, (List.range (k + 1)).filter o.contains = X := ⟨_, rfl⟩
            have HX := Lib.hid hX
            have HRS2 := Lib.hid (hX.symm.trans HRS.out)
            clear hX
            go_wp2_with fail
            go_roundw
            case rel =>
              refine ⟨k + 1, by go_num, by omega, ?_, HA3⟩
              rw [HX.out, HRS2.out]
              exact HW
            case measure => simp [intOf]; omega
          | true =>
            rw [hb] at hck hrs
            simp only [if_true] at hrs
            clear hb
            have HRS := Lib.hid hrs
            clear hrs
            generalize (List.range k).filter o.contains = oo at *
            have HLTO := Lib.hid (fun q hq => (HW.out.lt q hq).1)
            obtain ⟨X, hX⟩ : ∃ X, (List.range (k + 1)).filter o.contains = X := ⟨_, rfl⟩
            have HX := Lib.hid hX
            have HRS2 := Lib.hid (hX.symm.trans HRS.out)
            clear hX
            have hHs := HA3.out.1.2
            go_wp2_with (at_builtin; refine wpList_append_own _ rfl _ _ 26 rfl (H + 1) 3 i0' (.int .i64 0) 1 8 Try.underlying26 HI.out.1 HI.out.2.1 HI.out.2.2.1 HI.out.2.2.2 rfl (by decide) (.slice ao oo.length co) oo.length _ rfl (HW.out.alloc _) ⟨_, 0, none⟩ 1 1 [.int .i64 (k : Int)] rfl rfl (cell_one_new _ _ _) (fun x hx => by simp at hx; subst hx; rfl) (by unfold maxLen; omega) (by omega) (by simp; omega) ?_; intro v' w3 hown' hgrow3 hnil3; obtain ⟨a', c', rfl, hl'⟩ := own_slice hown'; have HOW := Lib.hid hown'; clear hnil3 hown')
            go_roundw
            case rel =>
              refine ⟨k + 1, by go_num, by omega, ?_, Lib.hid (HA3.out.grown _ hgrow3 HLTO.out)⟩
              rw [HX.out, HRS2.out]
              exact Lib.hid (by have := HOW.out; simpa [ordZ, i64s] using this)
            case measure => simp [intOf]; omega
        · obtain rfl : k = m := by omega
          have HR4 := Lib.hid (Rd.of_own HW.out)
          have HB4 := Lib.hid HA3.out.2.2.2
          have hmem : ∀ j, j ∈ (List.range k).filter o.contains ↔ RE l s j := fun j => by
            rw [List.mem_filter, List.mem_range, List.contains_iff_mem, HALL.out]
            exact ⟨fun h => h.2, fun h => ⟨by rw [← HLM.out]; exact (HS.out j ((HALL.out j).2 h)).2, h⟩⟩
          have HMEM := Lib.hid hmem
          have HRR := Lib.hid (rising_range k o.contains)
          clear hmem
          generalize (List.range k).filter o.contains = oo at *
          go_wp2_with fail
          go_ret
          exact ⟨ao, co, oo, rfl, HR4.out, HRR.out, HMEM.out, HB4.out⟩
end Go.Proofs.Ytfneikphgmjfbaa
