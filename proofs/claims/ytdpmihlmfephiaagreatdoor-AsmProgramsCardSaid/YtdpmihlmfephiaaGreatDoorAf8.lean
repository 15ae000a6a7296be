/- The document's Program; AsmPrograms: the law's walk. -/
import Derived.Test.YtdpmihlmfephiaaGreatDoorAg1
import Derived.Test.YtdpmihlmfephiaaGreatDoorAd5
namespace Go.Proofs.YtdpmihlmfephiaaGreatDoor
set_option linter.unusedVariables false
set_option linter.unusedSimpArgs false
open Go.Joins Go.ChangeShapes Go.WideShapes Go.ChangeAt Go.RowKit Go.Deep

theorem goD_lab {L : List (List UInt8)} {k : Nat} {o : List UInt8} (hk : k < L.length) (ho : o ≠ []) (hy : labD L[k] = o) (code : List UInt8) : goN (numbF 1 L) (numbF (k + 1) (L.drop k)) code = if (lookN o (numbF 1 L) 0).map (·.1) = some (k + 1) then goN (numbF 1 L) (numbF (k + 2) (L.drop (k + 1))) code else ([], k + 1, 51) := by
  have hl := labD_inv hy ho
  rw [goD_says hk (labD_some hl).2.2, goN_lab _ _ hl]
theorem goD_dup {L : List (List UInt8)} {k j : Nat} {o : List UInt8} (hk : k < L.length) (ho : o ≠ []) (hy : labD L[k] = o) (hj : j < k) (hjo : ∀ h : j < L.length, labD L[j] = o) (hno : ∀ i (hi : i < L.length), i < j → labD L[i] ≠ o) (code : List UInt8) : goN (numbF 1 L) (numbF (k + 1) (L.drop k)) code = ([], k + 1, 51) := by
  rw [goD_lab hk ho hy, look_first ho L 1 j 0 (by omega) (hjo _) hno, if_neg]
  intro e
  injection e with e
  omega
theorem goD_first {L : List (List UInt8)} {k : Nat} {o : List UInt8} (hk : k < L.length) (ho : o ≠ []) (hy : labD L[k] = o) (hno : ∀ i (hi : i < L.length), i < k → labD L[i] ≠ o) (code : List UInt8) : goN (numbF 1 L) (numbF (k + 1) (L.drop k)) code = goN (numbF 1 L) (numbF (k + 2) (L.drop (k + 1))) code := by
  rw [goD_lab hk ho hy, look_first ho L 1 k 0 hk hy hno, if_pos (by congr 1; omega)]
theorem goD_err {all : List (Nat × List UInt8)} {L : List (List UInt8)} {k : Nat} (hk : k < L.length) (hs : L[k] ≠ []) (hl : labD L[k] = []) {code : List UInt8} {e : Int} (ha : asmN all L[k] code.length = .inl e) : goN all (numbF (k + 1) (L.drop k)) code = ([], k + 1, e) := by
  rw [goD_says hk hs, goN_ins _ _ (labD_inv0 hl)]
  simp only [ha]
theorem goD_ok {all : List (Nat × List UInt8)} {L : List (List UInt8)} {k : Nat} (hk : k < L.length) (hs : L[k] ≠ []) (hl : labD L[k] = []) {code : List UInt8} {en : Nat} (ha : asmN all L[k] code.length = .inr en) : goN all (numbF (k + 1) (L.drop k)) code = goN all (numbF (k + 2) (L.drop (k + 1))) (code ++ le4 en) := by
  rw [goD_says hk hs, goN_ins _ _ (labD_inv0 hl)]
  simp only [ha]
theorem rencode_par {s : List UInt8} {op rd rs1 rs2 n : Int} (h : parF s = some (op, ⟨rd, rs1, rs2, n⟩)) (w : World) :
    Calls Tryz.prog 24 #[.agg #[.int .i64 op, .int .i64 rd, .int .i64 rs1, .int .i64 rs2, .int .i64 n]] w fun e w' => e = .returned (.tuple #[.int .u32 ((encO (op, ⟨rd, rs1, rs2, n⟩) : Nat) : Int), .int .i64 0]) ∧ Below w.heap.size w w' := by
  obtain ⟨hok, -⟩ := (parF_iff _ _ _).1 h
  have hr : rightB op rd rs1 rs2 n = true := hok
  have := rencode_any op rd rs1 rs2 n w
  unfold encR encE at this
  rw [hr, if_pos rfl, if_pos rfl] at this
  exact this
theorem rlittle_le (en : Nat) (h : en < 4294967296) (w : World) :
    Calls Tryz.prog 50 #[.int .u64 (en : Int), .int .i64 4] w fun e w' => ∃ a c, e = .returned (.slice a 4 c) ∧ Rd w' a 4 (u8B (le4 en)) ∧ Below w.heap.size w w' := by
  refine (rlittle_any (en : Int) 4 w (by omega) (by omega)).mono ?_
  rintro e w' ⟨v, rfl, ho, hb⟩
  rw [le4_little] at ho
  have hl : (littleZ (en : Int) 4).length = 4 := by
    have := congrArg List.length (le4_little en)
    rw [u8B_len] at this
    unfold u8s at this
    rw [List.length_map] at this
    exact this
  rw [hl] at ho
  obtain ⟨a, c, rfl, -⟩ := own_slice ho
  exact ⟨a, c, rfl, Rd.of_own ho, hb⟩
theorem rprog_long (s : List UInt8) (w : World) (hs : 4000 < s.length) (hl : s.length < 1000000) :
    Calls Tryz.prog 18 #[.string ⟨s.toArray⟩] w (ProPost ([], 0, 2) w) := by
  have hsz : (⟨s.toArray⟩ : ByteArray).size = s.length := mk_size s
  obtain ⟨n, hn⟩ : ∃ n, s.length = n := ⟨_, rfl⟩
  rw [hn] at hsz hs hl
  have hlt : (4000 : Int) < (n : Int) := by omega
  have hd : decide ((4000 : Int) < (n : Int)) = true := decide_eq_true hlt
  have hd2 : decide (4000 < n) = true := decide_eq_true hs
  clear hn
  go_enter Tryz.func18, Tryz.ntmps18
  go_wp2_with fail
  go_ret3
  exact ⟨none, 0, rfl, Rd.nil _ _, Nat.le_refl _, Below.refl _ _⟩
set_option maxRecDepth 100000 in
set_option maxHeartbeats 8000000 in
theorem rprog_short (s : List UInt8) (w : World) (hs : s.length ≤ 4000) :
    Calls Tryz.prog 18 #[.string ⟨s.toArray⟩] w (ProPost (goN (numbF 1 (linesF s)) (numbF 1 (linesF s)) []) w) := by
  have hsz : (⟨s.toArray⟩ : ByteArray).size = s.length := mk_size s
  obtain ⟨out, hout⟩ : ∃ out, goN (numbF 1 (linesF s)) (numbF 1 (linesF s)) [] = out := ⟨_, rfl⟩
  rw [hout]
  have HOUT := Lib.hid hout
  have HLI := Lib.hid (rlines_any s w (by omega))
  have HS := Lib.hid hs
  obtain ⟨sn, hsn⟩ : ∃ sn, s.length = sn := ⟨_, rfl⟩
  rw [hsn] at hsz hs
  have hlt : ¬ (4000 : Int) < (sn : Int) := by omega
  have hd : decide ((4000 : Int) < (sn : Int)) = false := decide_eq_false hlt
  have hd2 : decide (4000 < sn) = false := decide_eq_false (by omega)
  clear hout hsn hs
  go_enter Tryz.func18, Tryz.ntmps18
  go_wp2_with (go_at_call 45; refine HLI.out.mono ?_; rintro e w1 ⟨la, lc, L, rfl, hown, hlo, hb⟩; have HRD := Lib.hid (Rd.of_own hown); have HLO := Lib.hid hlo; have HBW := Lib.hid hb; clear hown hlo hb)
  have HX : Hid (∀ x ∈ L, x.length ≤ 4000) := Lib.hid (fun x hx => Nat.le_trans (HLO.out.2.2 x hx) HS.out)
  have hll : L.length ≤ 4001 := Nat.le_trans HLO.out.2.1 (by have := HS.out; omega)
  have HFN := Lib.hid (fun (nm : List UInt8) W (hb : Below w1.heap.size w1 W) => rfindl_any la lc L nm W (HRD.out.below hb) (by omega) (fun x hx => by have := HX.out x hx; omega))
  have HG0 : Hid (goN (numbF 1 L) (numbF (0 + 1) (L.drop 0)) [] = out) := Lib.hid (by rw [List.drop_zero, Nat.zero_add, HLO.out.1]; exact HOUT.out)
  have HFL := Lib.hid (fun nm => findD_le nm L 0)
  obtain ⟨n, hn⟩ : ∃ n, L.length = n := ⟨_, rfl⟩
  have HNN := Lib.hid hn
  rw [hn] at hll HFN HRD HFL ⊢
  have HLL := Lib.hid hll
  clear hn hll HLO HOUT HLI HS
  go_loopw [6, 7] (fun x i wr => ∃ (k m : Nat) (a : Option Addr) (cp : Nat) (code : List UInt8), k ≤ n ∧ m ≤ 4 * k ∧ x = .slice a m cp ∧ i = .int .i64 (k : Int) ∧ Hid (code.length = m) ∧ Hid (wr.ownsRow w1.heap.size 5 1 (.slice a m cp) m (u8B code)) ∧ Hid (goN (numbF 1 L) (numbF (k + 1) (L.drop k)) code = out) ∧ Hid (Below w1.heap.size w1 wr)) (fun _ i _ => n - (intOf i).toNat)
  case atStart => exact ⟨0, 0, none, 0, [], Nat.zero_le _, Nat.le_refl _, rfl, rfl, Lib.hid rfl, Lib.hid (World.ownsRow_nil _ _ _ 1), HG0, Lib.hid (Below.refl _ _)⟩
  case round =>
    obtain ⟨k, m, a, cp, code, hk, hm, rfl, rfl, HCL, HROW, HG, HBL⟩ := hrel
    have hll := HLL.out
    by_cases hkn : k < n
    · have hkL : k < L.length := by rw [HNN.out]; exact hkn
      obtain ⟨g, off, hge, -, hc⟩ := HRD.out.at_ hkn
      subst hge
      obtain ⟨q, hq⟩ : ∃ q, wr = q := ⟨_, rfl⟩
      have hcw : ∀ W, Below w1.heap.size w1 W → W.cell? ⟨g, off + k, none⟩ = some (.string ⟨L[k].toArray⟩) := fun W hb => by
        obtain ⟨g', off', hge', -, hc'⟩ := (HRD.out.below hb).at_ hkn
        cases hge'
        rw [strs_get L k hkL] at hc'
        exact hc'
      have hc := hcw wr HBL.out
      subst hq
      have HLB := Lib.hid (fun W => rlabel_any L[k] W (by have := HX.out L[k] (List.getElem_mem hkL); omega))
      have HAI := Lib.hid (fun W => raim_any L[k] W (by have := HX.out L[k] (List.getElem_mem hkL); omega))
      have hd1 : decide ((k : Int) < (n : Int)) = true := decide_eq_true (by omega)
      have hd2 : decide (k < n) = true := decide_eq_true hkn
      have kk0 : (0 : Int) ≤ (k : Int) := by omega
      have kk1 : (k : Int) < (n : Int) := by omega
      by_cases hye : L[k] = []
      · have hst := (goD_blank hkL hye code).symm.trans HG.out
        have HST := Lib.hid hst
        rw [hye] at hc
        clear hst hye hcw
        go_wp2_with fail
        go_roundw
        case rel => exact ⟨k + 1, m, a, cp, code, by omega, by omega, rfl, by go_num, HCL, HROW, HST, HBL⟩
        case measure => simp [intOf]; omega
      · have hyB : (L[k] == []) = false := by simpa using hye
        by_cases hlab : labD L[k] = []
        · have herr := fun e (ha : asmN (numbF 1 L) L[k] code.length = .inl e) => (goD_err hkL hye hlab ha).symm.trans HG.out
          have hok := fun en (ha : asmN (numbF 1 L) L[k] code.length = .inr en) => (goD_ok hkL hye hlab ha).symm.trans HG.out
          rw [HCL.out] at herr hok
          rw [hlab] at HLB
          have hyl : L[k].length ≤ 4000 := HX.out _ (List.getElem_mem hkL)
          obtain ⟨y, hy⟩ : ∃ y, L[k] = y := ⟨_, rfl⟩
          rw [hy] at hyB HLB HAI hc herr hok hyl
          have HERR := Lib.hid herr
          have HOK := Lib.hid hok
          clear herr hok hy hye hcw hlab
          cases ha : aimF y with
          | none =>
            have hap := asm_plain (all := numbF 1 L) (p := m) ha
            rw [aimD_none ha] at HAI
            have HPA := Lib.hid (fun W => rparse_any y W (by omega))
            cases hp : parF y with
            | none =>
              rw [hp] at hap
              have hf := HERR.out 50 hap
              subst hf
              rw [(par_none hp).1, (par_none hp).2] at HPA
              unfold insV at HPA
              simp only [] at HPA
              clear hap hp
              go_wp2_with (first
                | (go_at_call 46; refine (HLB.out _).mono ?_; rintro e w2 ⟨rfl, rfl⟩)
                | (go_at_call 47; refine (HAI.out _).mono ?_; rintro e w2 ⟨rfl, hb⟩; have HB2 := Lib.hid hb; clear hb)
                | (go_at_call 16; refine (HPA.out _).mono ?_; rintro e w4 ⟨rfl, hb⟩; have HB4 : Hid (Below wr.heap.size wr w4) := Lib.hid (HB2.out.trans (hb.mono HB2.out.size)); clear hb))
              go_ret3
              exact ⟨none, 0, by first | rfl | simp, Rd.nil _ _, Nat.le_refl _, HBW.out.trans ((HBL.out.trans ((bAlloc HB4.out _).mono HBL.out.size)).mono HBW.out.size)⟩
            | some yy =>
              obtain ⟨op, rd, rs1, rs2, im⟩ := yy
              rw [hp] at hap
              simp only [] at hap
              rw [(par_some hp).1, (par_some hp).2] at HPA
              unfold insV at HPA
              simp only [] at HPA
              have hf := HOK.out _ hap
              have HEN := Lib.hid (fun W => rencode_par hp W)
              have hel := encO_lt hp
              obtain ⟨en, hen⟩ : ∃ en, encO (op, ⟨rd, rs1, rs2, im⟩) = en := ⟨_, rfl⟩
              rw [hen] at HEN hel hf
              have HLI := Lib.hid (fun W => rlittle_le en hel W)
              have hwu : IntKind.u64.wrap (en : Int) = (en : Int) := wrap_nat en (by omega)
              have HF := Lib.hid hf
              clear hap hp hf hen
              go_wp2_with (first
                | (go_at_call 46; refine (HLB.out _).mono ?_; rintro e w2 ⟨rfl, rfl⟩)
                | (go_at_call 47; refine (HAI.out _).mono ?_; rintro e w2 ⟨rfl, hb⟩; have HB2 := Lib.hid hb; clear hb)
                | (go_at_call 16; refine (HPA.out _).mono ?_; rintro e w4 ⟨rfl, hb⟩; have HB4 : Hid (Below wr.heap.size wr w4) := Lib.hid (HB2.out.trans (hb.mono HB2.out.size)); clear hb)
                | (go_at_call 24; refine (HEN.out _).mono ?_; rintro e w5 ⟨rfl, hb⟩; have HB5 : Hid (Below wr.heap.size wr w5) := Lib.hid (HB4.out.trans (((bAlloc (Below.refl w4.heap.size w4) _).trans (hb.mono (Nat.le_of_lt (by simp)))).mono HB4.out.size)); clear hb)
                | (go_at_call 50; refine (HLI.out _).mono ?_; rintro e w6 ⟨ya, yc, rfl, hrd, hb⟩; have HB6 : Hid (Below wr.heap.size wr w6) := Lib.hid (HB5.out.trans (hb.mono HB5.out.size)); have HRD6 := Lib.hid hrd; clear hb hrd)
                | (refine wpList_appE 32 5 (.int .u8 0) 1 1 Tryz.underlying32 infoU8 rfl (by decide) (by decide) _ rfl _ _ rfl w1.heap.size (.slice a m cp) m (u8B code) rfl (row_below HROW.out HB6.out) ya 4 yc (u8B (le4 en)) rfl HRD6.out (u8B_one _) (by omega) (Nat.le_trans HBL.out.size HB6.out.size) ?_; intro a7 c7 w7 hown7 hg7 hob7; have HO7 := Lib.hid hown7; have HG7 := Lib.hid hg7; clear hown7 hg7 hob7))
              go_roundw
              case rel => exact ⟨k + 1, m + 4, a7, c7, code ++ le4 en, by omega, by omega, rfl, by go_num, Lib.hid (by rw [List.length_append, HCL.out]; rfl), Lib.hid (by rw [u8B_app]; exact HO7.out), HF, Lib.hid ((HBL.out.trans (HB6.out.mono HBL.out.size)).grown HG7.out (Nat.le_trans HBL.out.size HB6.out.size) (fun b e => (HROW.out.lt b e).1))⟩
              case measure => simp [intOf]; omega
          | some hnm =>
            obtain ⟨hd, nm⟩ := hnm
            have hap := asm_aim (all := numbF 1 L) (p := m) ha
            rw [aimD_some ha] at HAI
            obtain ⟨hyy, hnne, -, -⟩ := aim_parts ha
            rw [← findD_look hnne L 1 0] at hap
            have hfl := HFL.out nm
            obtain ⟨z, hz⟩ : ∃ z, findD nm L 0 = z := ⟨_, rfl⟩
            have HFND := Lib.hid (fun W hb => HFN.out nm W hb)
            rw [hz] at HFND hap hfl
            have hylen : y.length = hd.length + nm.length := by rw [hyy, List.length_append]
            have hysz : (⟨y.toArray⟩ : ByteArray).size = hd.length + nm.length := by rw [mk_size, hylen]
            have hex1 : (⟨y.toArray⟩ : ByteArray).extract 0 hd.length = ⟨hd.toArray⟩ := by rw [Lib.extract_mk, hyy]; simp
            have hex2 : (⟨y.toArray⟩ : ByteArray).extract hd.length (hd.length + nm.length) = ⟨nm.toArray⟩ := by rw [Lib.extract_mk, hyy]; simp
            obtain ⟨hl, hhl⟩ : ∃ hl, hd.length = hl := ⟨_, rfl⟩
            obtain ⟨nl, hnl⟩ : ∃ nl, nm.length = nl := ⟨_, rfl⟩
            rw [hhl, hnl] at hysz hylen
            rw [hhl] at hex1 hex2 HAI
            rw [hnl] at hex2
            have hge : decide ((0 : Int) ≤ (hl : Int)) = true := decide_eq_true (by omega)
            have hlI0 : (0 : Int) ≤ (hl : Int) := by omega
            have hlI1 : (hl : Int) ≤ (hl : Int) + (nl : Int) := by omega
            have hlI2 : hl ≤ hl + nl := by omega
            clear ha hyy hnne hz
            by_cases hz0 : z < 0
            · have hzm : z = -1 := by omega
              subst hzm
              have hw0 : IntKind.i64.wrap (max (-1) 0 - (m : Int)) = -(m : Int) := by rw [IntKind.wrap_i64]; omega
              have HNU := Lib.hid (fun W => rnum_any (-(m : Int)) W (by omega) (by omega))
              have hil := itoa_le (n := -(m : Int)) (by omega) (by omega)
              have hat : aimT hd (-1) m = hd ++ [48] := by unfold aimT; rw [if_pos (by decide)]
              rw [hat] at hap
              obtain ⟨it, hit⟩ : ∃ it, Lib.itoa (-(m : Int)) = it := ⟨_, rfl⟩
              rw [hit] at HNU hil
              have hadd1 := add_l hd it (hd ++ it) rfl (by omega) (by omega)
              have hex3 : (⟨(hd ++ it).toArray⟩ : ByteArray).extract 0 hl = ⟨hd.toArray⟩ := by rw [Lib.extract_mk, ← hhl]; simp
              have h3sz : (⟨(hd ++ it).toArray⟩ : ByteArray).size = hl + it.length := by rw [mk_size, List.length_append, hhl]
              obtain ⟨t1, ht1⟩ : ∃ t1, hd ++ it = t1 := ⟨_, rfl⟩
              rw [ht1] at hadd1 hex3 h3sz
              have hadd2 := add_l hd [48] (hd ++ [48]) rfl (by omega) (by decide)
              have htl : (hd ++ [48]).length ≤ 4001 := by rw [List.length_append, List.length_singleton]; omega
              obtain ⟨t2, ht2⟩ : ∃ t2, hd ++ [48] = t2 := ⟨_, rfl⟩
              rw [ht2] at hadd2 hap htl
              have HPA := Lib.hid (fun W => rparse_any t2 W (by omega))
              simp only [show ((-1 : Int) < 0) = True by decide, if_true] at hap
              clear hat hit ht1 ht2 hhl hnl hz0
              cases hp : parF t2 with
              | none =>
                rw [hp] at hap
                have hf := HERR.out 50 hap
                subst hf
                rw [(par_none hp).1, (par_none hp).2] at HPA
                unfold insV at HPA
                simp only [] at HPA
                clear hap hp
                go_wp2_with (first
                  | (go_at_call 46; refine (HLB.out _).mono ?_; rintro e w2 ⟨rfl, rfl⟩)
                  | (go_at_call 47; refine (HAI.out _).mono ?_; rintro e w2 ⟨rfl, hb⟩; have HB2 := Lib.hid hb; clear hb)
                  | (go_at_call 48; refine (HFND.out _ (HBL.out.trans (HB2.out.mono HBL.out.size))).mono ?_; rintro e w2b ⟨rfl, rfl⟩))
                go_region_held3 (fun _ : World => True)
                  (exact trivial)
                  (first | (go_at_call 49; (with_reducible refine (HNU.out w2.drew).mono ?_); rintro e w3 ⟨rfl, hb⟩; have HB3 : Hid (Below wr.heap.size wr w3) := Lib.hid ((Below.drew HB2.out).trans (hb.mono (Below.drew HB2.out).size)); clear hb))
                go_wp2_with (first
                  | (go_at_call 16; refine (HPA.out _).mono ?_; rintro e w4 ⟨rfl, hb⟩; have HB4 : Hid (Below wr.heap.size wr w4) := Lib.hid (HB3.out.trans (hb.mono HB3.out.size)); clear hb))
                go_ret3
                exact ⟨none, 0, by first | rfl | simp, Rd.nil _ _, Nat.le_refl _, HBW.out.trans ((HBL.out.trans ((bAlloc HB4.out _).mono HBL.out.size)).mono HBW.out.size)⟩
              | some yy =>
                obtain ⟨op, rd, rs1, rs2, im⟩ := yy
                rw [hp] at hap
                simp only [] at hap
                rw [(par_some hp).1, (par_some hp).2] at HPA
                unfold insV at HPA
                simp only [] at HPA
                have hf := HERR.out 51 hap
                subst hf
                clear hap hp
                go_wp2_with (first
                  | (go_at_call 46; refine (HLB.out _).mono ?_; rintro e w2 ⟨rfl, rfl⟩)
                  | (go_at_call 47; refine (HAI.out _).mono ?_; rintro e w2 ⟨rfl, hb⟩; have HB2 := Lib.hid hb; clear hb)
                  | (go_at_call 48; refine (HFND.out _ (HBL.out.trans (HB2.out.mono HBL.out.size))).mono ?_; rintro e w2b ⟨rfl, rfl⟩))
                go_region_held3 (fun _ : World => True)
                  (exact trivial)
                  (first | (go_at_call 49; (with_reducible refine (HNU.out w2.drew).mono ?_); rintro e w3 ⟨rfl, hb⟩; have HB3 : Hid (Below wr.heap.size wr w3) := Lib.hid ((Below.drew HB2.out).trans (hb.mono (Below.drew HB2.out).size)); clear hb))
                go_wp2_with (first
                  | (go_at_call 16; refine (HPA.out _).mono ?_; rintro e w4 ⟨rfl, hb⟩; have HB4 : Hid (Below wr.heap.size wr w4) := Lib.hid (HB3.out.trans (hb.mono HB3.out.size)); clear hb))
                go_ret3
                exact ⟨none, 0, by first | rfl | simp, Rd.nil _ _, Nat.le_refl _, HBW.out.trans ((HBL.out.trans ((bAlloc HB4.out _).mono HBL.out.size)).mono HBW.out.size)⟩
            · obtain ⟨t, rfl⟩ : ∃ t : Nat, z = (t : Int) := ⟨z.toNat, by omega⟩
              have htL : t ≤ 100000 := by have := hfl.2; omega
              have hw0 : IntKind.i64.wrap ((t : Int) - (m : Int)) = (t : Int) - (m : Int) := by rw [IntKind.wrap_i64]; omega
              have hw9 : IntKind.i64.wrap (max (t : Int) 0 - (m : Int)) = (t : Int) - (m : Int) := by rw [IntKind.wrap_i64]; omega
              have HNU := Lib.hid (fun W => rnum_any ((t : Int) - (m : Int)) W (by omega) (by omega))
              have hil := itoa_le (n := (t : Int) - (m : Int)) (by omega) (by omega)
              have hat : aimT hd (t : Int) m = hd ++ Lib.itoa ((t : Int) - (m : Int)) := by unfold aimT; rw [if_neg hz0]
              rw [hat] at hap
              obtain ⟨it, hit⟩ : ∃ it, Lib.itoa ((t : Int) - (m : Int)) = it := ⟨_, rfl⟩
              rw [hit] at HNU hil hap
              have hadd1 := add_l hd it (hd ++ it) rfl (by omega) (by omega)
              have htl : (hd ++ it).length ≤ 4100 := by rw [List.length_append]; omega
              obtain ⟨t2, ht2⟩ : ∃ t2, hd ++ it = t2 := ⟨_, rfl⟩
              rw [ht2] at hadd1 hap htl
              have HPA := Lib.hid (fun W => rparse_any t2 W (by omega))
              simp only [if_neg hz0] at hap
              have hz1 : decide ((t : Int) < 0) = false := decide_eq_false hz0
              clear hat hit ht2 hhl hnl
              cases hp : parF t2 with
              | none =>
                rw [hp] at hap
                have hf := HERR.out 50 hap
                subst hf
                rw [(par_none hp).1, (par_none hp).2] at HPA
                unfold insV at HPA
                simp only [] at HPA
                clear hap hp
                go_wp2_with (first
                  | (go_at_call 46; refine (HLB.out _).mono ?_; rintro e w2 ⟨rfl, rfl⟩)
                  | (go_at_call 47; refine (HAI.out _).mono ?_; rintro e w2 ⟨rfl, hb⟩; have HB2 := Lib.hid hb; clear hb)
                  | (go_at_call 48; refine (HFND.out _ (HBL.out.trans (HB2.out.mono HBL.out.size))).mono ?_; rintro e w2b ⟨rfl, rfl⟩))
                go_region_held3 (fun _ : World => True)
                  (exact trivial)
                  (first | (go_at_call 49; (with_reducible refine (HNU.out w2.drew).mono ?_); rintro e w3 ⟨rfl, hb⟩; have HB3 : Hid (Below wr.heap.size wr w3) := Lib.hid ((Below.drew HB2.out).trans (hb.mono (Below.drew HB2.out).size)); clear hb))
                go_wp2_with (first
                  | (go_at_call 16; refine (HPA.out _).mono ?_; rintro e w4 ⟨rfl, hb⟩; have HB4 : Hid (Below wr.heap.size wr w4) := Lib.hid (HB3.out.trans (hb.mono HB3.out.size)); clear hb))
                go_ret3
                exact ⟨none, 0, by first | rfl | simp, Rd.nil _ _, Nat.le_refl _, HBW.out.trans ((HBL.out.trans ((bAlloc HB4.out _).mono HBL.out.size)).mono HBW.out.size)⟩
              | some yy =>
                obtain ⟨op, rd, rs1, rs2, im⟩ := yy
                rw [hp] at hap
                simp only [] at hap
                rw [(par_some hp).1, (par_some hp).2] at HPA
                unfold insV at HPA
                simp only [] at HPA
                have hf := HOK.out _ hap
                have HEN := Lib.hid (fun W => rencode_par hp W)
                have hel := encO_lt hp
                obtain ⟨en, hen⟩ : ∃ en, encO (op, ⟨rd, rs1, rs2, im⟩) = en := ⟨_, rfl⟩
                rw [hen] at HEN hel hf
                have HLI := Lib.hid (fun W => rlittle_le en hel W)
                have hwu : IntKind.u64.wrap (en : Int) = (en : Int) := wrap_nat en (by omega)
                have HF := Lib.hid hf
                clear hap hp hf hen
                go_wp2_with (first
                  | (go_at_call 46; refine (HLB.out _).mono ?_; rintro e w2 ⟨rfl, rfl⟩)
                  | (go_at_call 47; refine (HAI.out _).mono ?_; rintro e w2 ⟨rfl, hb⟩; have HB2 := Lib.hid hb; clear hb)
                  | (go_at_call 48; refine (HFND.out _ (HBL.out.trans (HB2.out.mono HBL.out.size))).mono ?_; rintro e w2b ⟨rfl, rfl⟩))
                go_region_held3 (fun _ : World => True)
                  (exact trivial)
                  (first | (go_at_call 49; (with_reducible refine (HNU.out w2.drew).mono ?_); rintro e w3 ⟨rfl, hb⟩; have HB3 : Hid (Below wr.heap.size wr w3) := Lib.hid ((Below.drew HB2.out).trans (hb.mono (Below.drew HB2.out).size)); clear hb))
                go_wp2_with (first
                  | (go_at_call 16; refine (HPA.out _).mono ?_; rintro e w4 ⟨rfl, hb⟩; have HB4 : Hid (Below wr.heap.size wr w4) := Lib.hid (HB3.out.trans (hb.mono HB3.out.size)); clear hb)
                  | (go_at_call 24; refine (HEN.out _).mono ?_; rintro e w5 ⟨rfl, hb⟩; have HB5 : Hid (Below wr.heap.size wr w5) := Lib.hid (HB4.out.trans (((bAlloc (Below.refl w4.heap.size w4) _).trans (hb.mono (Nat.le_of_lt (by simp)))).mono HB4.out.size)); clear hb)
                  | (go_at_call 50; refine (HLI.out _).mono ?_; rintro e w6 ⟨ya, yc, rfl, hrd, hb⟩; have HB6 : Hid (Below wr.heap.size wr w6) := Lib.hid (HB5.out.trans (hb.mono HB5.out.size)); have HRD6 := Lib.hid hrd; clear hb hrd)
                  | (refine wpList_appE 32 5 (.int .u8 0) 1 1 Tryz.underlying32 infoU8 rfl (by decide) (by decide) _ rfl _ _ rfl w1.heap.size (.slice a m cp) m (u8B code) rfl (row_below HROW.out HB6.out) ya 4 yc (u8B (le4 en)) rfl HRD6.out (u8B_one _) (by omega) (Nat.le_trans HBL.out.size HB6.out.size) ?_; intro a7 c7 w7 hown7 hg7 hob7; have HO7 := Lib.hid hown7; have HG7 := Lib.hid hg7; clear hown7 hg7 hob7))
                go_roundw
                case rel => exact ⟨k + 1, m + 4, a7, c7, code ++ le4 en, by omega, by omega, rfl, by go_num, Lib.hid (by rw [List.length_append, HCL.out]; rfl), Lib.hid (by rw [u8B_app]; exact HO7.out), HF, Lib.hid ((HBL.out.trans (HB6.out.mono HBL.out.size)).grown HG7.out (Nat.le_trans HBL.out.size HB6.out.size) (fun b e => (HROW.out.lt b e).1))⟩
                case measure => simp [intOf]; omega
        · have hlB : (labD L[k] == []) = false := by simpa using hlab
          have hlB2 : (labD L[k] != []) = true := by simpa using hlab
          obtain ⟨o, ho⟩ : ∃ o, labD L[k] = o := ⟨_, rfl⟩
          have hdup := fun j (hj : j < k) (hjo : ∀ h : j < L.length, labD L[j] = o) hno => (goD_dup hkL (ho ▸ hlab) ho hj hjo hno code).symm.trans HG.out
          have hfst := fun hno => (goD_first hkL (ho ▸ hlab) ho hno code).symm.trans HG.out
          rw [ho] at hlB hlB2 HLB
          have HDUP := Lib.hid hdup
          have HFST := Lib.hid hfst
          have HRDW : Hid (Rd wr (some ⟨g, off, none⟩) n (strs L)) := Lib.hid (HRD.out.below HBL.out)
          obtain ⟨y, hy⟩ : ∃ y, L[k] = y := ⟨_, rfl⟩
          rw [hy] at hyB HLB hc
          clear hdup hfst hcw hlab ho hy hye
          go_wp2_with (go_at_call 46; refine (HLB.out _).mono ?_; rintro e w2 ⟨rfl, rfl⟩)
          obtain ⟨wo, rfl⟩ : ∃ wo : World, wo = wr := ⟨_, rfl⟩
          clear hc
          go_loopw [10] (fun i wr => ∃ j : Nat, j ≤ k ∧ i = .int .i64 (j : Int) ∧ Hid (∀ x (hx : x < L.length), x < j → labD L[x] ≠ o) ∧ wo = wr) (fun i _ => k - (intOf i).toNat)
          case atStart => exact ⟨0, Nat.zero_le _, rfl, Lib.hid (fun x hx h => absurd h (by omega)), rfl⟩
          case round =>
            obtain ⟨j, hj, rfl, HJ, rfl⟩ := hrel
            by_cases hjk : j < k
            · have hjL : j < L.length := by omega
              have hjn : j < n := by omega
              obtain ⟨g', off', hge', -, hc⟩ := HRDW.out.at_ hjn
              cases hge'
              rw [strs_get L j hjL] at hc
              have HLJ := Lib.hid (fun W => rlabel_any L[j] W (by have := HX.out L[j] (List.getElem_mem hjL); omega))
              have hdup := HDUP.out j hjk
              have hcont : labD L[j] ≠ o → ∀ x (hx : x < L.length), x < j + 1 → labD L[x] ≠ o := fun h x hx hxj => by
                by_cases e : x = j
                · subst e; exact h
                · exact HJ.out x hx (by omega)
              obtain ⟨yj, hyj⟩ : ∃ y, L[j] = y := ⟨_, rfl⟩
              have hdup2 : labD yj = o → ([], k + 1, 51) = out := fun h => hdup (fun _ => by rw [hyj]; exact h) (fun i hi hij => HJ.out i hi hij)
              rw [hyj] at hc HLJ hcont
              obtain ⟨oj, hoj⟩ : ∃ oj, labD yj = oj := ⟨_, rfl⟩
              rw [hoj] at HLJ hcont hdup2
              have HC2 := Lib.hid hcont
              have HD2 := Lib.hid hdup2
              have e1 : decide ((j : Int) < (k : Int)) = true := decide_eq_true (by omega)
              have e2 : decide (j < k) = true := decide_eq_true hjk
              have jj0 : (0 : Int) ≤ (j : Int) := by omega
              have jj1 : (j : Int) < (n : Int) := by omega
              clear hdup hcont hdup2 hyj hoj
              by_cases hoo : oj = o
              · have hf := HD2.out hoo
                subst hf
                subst hoo
                go_wp2_with (go_at_call 46; refine (HLJ.out _).mono ?_; rintro e w3 ⟨rfl, rfl⟩)
                go_ret3
                exact ⟨none, 0, by first | rfl | simp, Rd.nil _ _, Nat.le_refl _, HBW.out.trans (HBL.out.mono HBW.out.size)⟩
              · have HC3 := Lib.hid (HC2.out hoo)
                have f1 : (oj == o) = false := by simpa using hoo
                go_wp2_with (go_at_call 46; refine (HLJ.out _).mono ?_; rintro e w3 ⟨rfl, rfl⟩)
                go_roundw
                case rel => exact ⟨j + 1, by omega, by go_num, HC3, trivial⟩
                case measure => simp [intOf]; omega
            · obtain rfl : j = k := by omega
              have hf := HFST.out (fun i hi hij => HJ.out i hi hij)
              have HF := Lib.hid hf
              clear hf
              have e1 : decide ((j : Int) < (j : Int)) = false := by simp
              have e2 : decide (j < j) = false := by simp
              go_wp2_with fail
              go_roundw
              case rel => exact ⟨j + 1, m, a, cp, code, by omega, by omega, rfl, by go_num, HCL, HROW, HF, HBL⟩
              case measure => simp [intOf]; omega
    · obtain rfl : k = n := by omega
      have hf : (code, (0 : Nat), (0 : Int)) = out := by rw [← HG.out, List.drop_eq_nil_of_le (by rw [HNN.out]; omega)]; rfl
      subst hf
      have e1 : decide ((k : Int) < (k : Int)) = false := by simp
      have e2 : decide (k < k) = false := by simp
      go_wp2_with fail
      go_ret3
      refine ⟨a, cp, by simp only []; rw [HCL.out]; rfl, by simp only []; rw [HCL.out]; exact Rd.of_own HROW.out, by simp only []; rw [HCL.out]; exact own_cap HROW.out, HBW.out.trans (HBL.out.mono HBW.out.size)⟩
theorem rprog_any (s : List UInt8) (w : World) (hl : s.length < 1000000) :
    Calls Tryz.prog 18 #[.string ⟨s.toArray⟩] w (ProPost (progX s) w) := by
  unfold progX
  by_cases h : 4000 < s.length
  · rw [if_pos h]; exact rprog_long s w h hl
  · rw [if_neg h]; exact rprog_short s w (by omega)
end Go.Proofs.YtdpmihlmfephiaaGreatDoor
