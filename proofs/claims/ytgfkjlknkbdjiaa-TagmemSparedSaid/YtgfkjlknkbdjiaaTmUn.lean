/- The document's memory: pages are unmapped: contract. -/
import Derived.Test.YtgfkjlknkbdjiaaTmW
namespace Go.Proofs.Ytgfkjlknkbdjiaa
set_option linter.unusedVariables false
set_option linter.unusedSimpArgs false
open Go.Joins Go.ChangeShapes Go.WideShapes Go.ChangeAt Go.RowKit Go.Deep

theorem mks_del (l : List Nat) (p : Nat) : (l.map (32 * ·)).filter (fun g => g / 256 != p) = (l.filter (fun g => g / 8 != p)).map (32 * ·) := by
  induction l with
  | nil => rfl
  | cons x r ih =>
    rw [List.map_cons]
    have e : 32 * x / 256 = x / 8 := by omega
    by_cases h : x / 8 = p
    · rw [List.filter_cons_of_neg (by rw [e]; simpa using h), List.filter_cons_of_neg (by simpa using h), ih]
    · rw [List.filter_cons_of_pos (by rw [e]; simpa using h), List.filter_cons_of_pos (by simpa using h), List.map_cons, ih]
theorem look_del (cs : List (Nat × Nat)) (p x : Nat) : lookF (cs.filter (fun c => c.1 / 256 != p)) x = if x / 256 = p then 0 else lookF cs x := by
  induction cs with
  | nil => simp [lookF]
  | cons c r ih =>
    by_cases e : c.1 / 256 = p
    · rw [List.filter_cons_of_neg (by simpa using e), ih]
      by_cases hx : x / 256 = p
      · rw [if_pos hx, if_pos hx]
      · rw [if_neg hx, if_neg hx]
        conv => rhs; unfold lookF
        rw [if_neg (fun h => hx (by rw [← h]; exact e))]
    · rw [List.filter_cons_of_pos (by simpa using e)]
      conv => lhs; unfold lookF
      rw [ih]
      by_cases hx : x / 256 = p
      · rw [if_pos hx, if_neg (fun h => e (by rw [h]; exact hx)), if_pos hx]
      · rw [if_neg hx, if_neg hx]
        conv => rhs; unfold lookF
theorem CellsOk.del {cs : List (Nat × Nat)} {m : Mm} (h : CellsOk cs m) (p : Nat) : CellsOk (cs.filter (fun c => c.1 / 256 != p)) (delP m p) := by
  refine ⟨fun x => ?_, fun c hc => ?_, List.Nodup.sublist (List.Sublist.map _ List.filter_sublist) h.nd⟩
  · rw [look_del, h.look]
    rfl
  · obtain ⟨h1, h2⟩ := List.mem_filter.1 hc
    obtain ⟨h3, h4⟩ := h.in_ c h1
    exact ⟨List.mem_filter.2 ⟨h3, by simpa using h2⟩, h4⟩
theorem rdel_fin {W : World} {R : Nat} {F : Nat → Prop} {m : Mm} {na ca ka : Option Addr} {nc cc kc : Nat} {cs : List (Nat × Nat)} (h : RmO W R F m na ca ka nc cc kc cs) (p : Nat)
    (U : World) (xs : List (Nat × Nat)) (ms : List Nat) (pa va ra : Option Addr) (pc vc rcc np nk : Nat) (hk : KP W.heap.size (· = R) W U) (hxs : xs = cs.filter (fun c => c.1 / 256 != p)) (hms : ms = (m.mks.map (32 * ·)).filter (fun g => g / 256 != p)) (hnp : np = (m.pgs.filter (· != p)).length) (hnk : nk = ms.length)
    (hbx : BoxN U R #[.slice pa np pc, .slice va xs.length vc, .slice ra nk rcc, .int .i64 (m.bud : Int)])
    (hp : U.ownsRow W.heap.size 39 1 (.slice pa np pc) np (u64s (m.pgs.filter (· != p))))
    (ho : U.ownsRow W.heap.size 89 2 (.slice va xs.length vc) xs.length (cellsC xs))
    (hm : U.ownsRow W.heap.size 39 1 (.slice ra nk rcc) nk (u64s ms)) :
    RmAt U R (FN F W U) (delP m p) ∧ KP W.heap.size F W U := by
  have hR : R < W.heap.size := h.lt _ h.fr
  rw [mks_del] at hms
  subst hms
  rw [List.length_map] at hnk
  subst hnk
  subst hnp
  refine ⟨⟨pa, va, ra, pc, vc, rcc, xs, okm_delP h.ok p, hbx, ?_, rdF_own ho (Nat.le_refl _) hR, ?_, by rw [hxs]; exact h.co.del p, Or.inl h.fr, fun q hq => ?_⟩, hk.mono (Nat.le_refl _) (fun q _ e => by rw [show q = R from e]; exact h.fr)⟩
  · have := rdF_own (F := F) (R := R) hp (Nat.le_refl _) hR
    rw [Nat.mul_one] at this
    exact this
  · have := rdF_own (F := F) (R := R) hm (Nat.le_refl _) hR
    rw [Nat.mul_one] at this
    exact this
  · rcases hq with hq | hq
    · exact Nat.lt_of_lt_of_le (h.lt q hq) hk.size
    · exact hq.2
set_option maxRecDepth 100000 in
set_option maxHeartbeats 4000000 in
theorem runmap_any (W : World) (R : Nat) (F : Nat → Prop) (m : Mm) (h : RmAt W R F m) (f n : Int) (hf0 : 0 ≤ f) (hf1 : f < 18446744073709551616) (hn0 : -9223372036854775808 ≤ n) (hn1 : n < 9223372036854775808) :
    Calls Try.prog 42 #[.pointer (some ⟨R, 0, none⟩), .int .u64 f, .int .i64 n] W fun e W' => e = .returned (.int .i64 (unmapF m f n).2) ∧ RmAt W' R (FN F W W') (unmapF m f n).1 ∧ KP W.heap.size F W W' := by
  have HA := Lib.hid (wrong_any f n W hf0 hf1 hn0 hn1)
  have HM0 : Hid (RmAt W R (FN F W W) m) := Lib.hid (h.mono (fun q hq => Or.inl hq) (fun q hq => by rcases hq with hq | hq; exact h.lt q hq; exact hq.2))
  clear hn0 hn1
  cases hbad : badP f n with
  | true =>
    have hp : unmapF m f n = (m, 1) := by unfold unmapF; rw [if_pos hbad]
    rw [hp]
    rw [hbad] at HA
    clear hp hbad h
    go_enter Try.func42, Try.ntmps42
    go_wp2_with fail
    refine HA.out.mono ?_; rintro e W0 ⟨rfl, rfl⟩
    go_wp2_with fail
    go_ret
    exact ⟨rfl, HM0.out, KP.refl _ _ _⟩
  | false =>
    rw [hbad] at HA
    obtain ⟨g1, g2, g3, g4⟩ : 1 ≤ n ∧ n ≤ 65536 ∧ f < 65536 ∧ f + n ≤ 65536 := by
      unfold badP at hbad
      simp only [Bool.or_eq_false_iff, decide_eq_false_iff_not] at hbad
      omega
    obtain ⟨f, rfl⟩ := Int.eq_ofNat_of_zero_le hf0
    obtain ⟨n, rfl⟩ := Int.eq_ofNat_of_zero_le (show 0 ≤ n by omega)
    have hfn : f + n ≤ 65536 := by omega
    have hn : 0 < n := by omega
    clear hf0 hf1 g1 g2 g3 g4
    obtain ⟨na, ca, ka, nc, cc, kc, cs, hO⟩ := id h
    have c0 : W.cell? ⟨R, 0, none⟩ = some (.slice na m.pgs.length nc) := hO.box.cell 0
    have HRN := Lib.hid hO.rn.1
    have hl := h.ok.len
    have hbd := h.ok.bud
    obtain ⟨u, hu⟩ : ∃ z, m.pgs.length = z := ⟨_, rfl⟩
    rw [hu] at c0 HRN hl
    have HBAD := Lib.hid hbad
    have HOK := Lib.hid h.ok
    have HFL := Lib.hid h.lt
    clear hO hu hbad h
    go_enter Try.func42, Try.ntmps42
    go_wp2_with fail
    refine HA.out.mono ?_; rintro e W0 ⟨rfl, rfl⟩
    go_wp2_with fail
    go_loop [8, 9] (fun i _ => ∃ k : Nat, i = .int .i64 k ∧ k ≤ n ∧ Hid (∀ j, j < k → f + j ∈ m.pgs)) (fun i _ => n - (intOf i).toNat)
    case atStart => exact ⟨0, rfl, by omega, Lib.hid (fun j hj => by omega)⟩
    case round =>
      obtain ⟨k, rfl, hk, HT⟩ := hrel
      by_cases hlt : k < n
      · have HC := Lib.hid (rhas_any na u nc m.pgs (f + k) W HRN.out (by omega))
        have w5 : IntKind.u64.wrap (k : Int) = (k : Int) := by rw [IntKind.wrap_u64]; omega
        have w6 : IntKind.u64.wrap ((f : Int) + (k : Int)) = (f : Int) + (k : Int) := by rw [IntKind.wrap_u64]; omega
        rw [show ((f + k : Nat) : Int) = (f : Int) + (k : Int) by omega] at HC
        have kk1 : (k : Int) < (n : Int) := by omega
        by_cases hin : f + k ∈ m.pgs
        · rw [decide_eq_true hin] at HC
          have HT2 : Hid (∀ j, j < k + 1 → f + j ∈ m.pgs) := Lib.hid (fun j hj => by
            by_cases e : j = k
            · rw [e]; exact hin
            · exact HT.out j (by omega))
          clear hin
          go_wp2_with fail
          refine HC.out.mono ?_; rintro e W1 ⟨rfl, rfl⟩
          go_wp2_with fail
          go_round
          case rel => exact ⟨k + 1, by go_num, by omega, HT2⟩
          case measure => simp [intOf]; omega
        · rw [decide_eq_false hin] at HC
          have hp : unmapF m (f : Int) (n : Int) = (m, 30) := by
            unfold unmapF
            rw [if_neg (by rw [HBAD.out]; decide), Int.toNat_natCast, Int.toNat_natCast, if_neg (show ¬ allIn m f n = true from fun h => hin (of_decide_eq_true (List.all_eq_true.1 h k (List.mem_range.2 hlt))))]
          have HPP := Lib.hid hp
          clear hin hp
          go_wp2_with fail
          refine HC.out.mono ?_; rintro e W1 ⟨rfl, rfl⟩
          go_wp2_with fail
          go_ret
          rw [HPP.out]
          exact ⟨rfl, HM0.out, KP.refl _ _ _⟩
      · obtain rfl : n = k := by omega
        have hp : unmapF m (f : Int) (n : Int) = (delN m f n, 0) := by
          unfold unmapF
          rw [if_neg (by rw [HBAD.out]; decide), Int.toNat_natCast, Int.toNat_natCast, if_pos (show allIn m f n = true from List.all_eq_true.2 (fun j hj => decide_eq_true (HT.out j (List.mem_range.1 hj))))]
        have HPP := Lib.hid hp
        clear hp
        go_wp2_with fail
        go_loopw [10] (fun i wr => ∃ k : Nat, i = .int .i64 k ∧ k ≤ n ∧ Hid (RmAt wr R (FN F W wr) (delN m f k)) ∧ Hid (KP W.heap.size F W wr)) (fun i _ => n - (intOf i).toNat)
        case atStart => exact ⟨0, rfl, by omega, HM0, Lib.hid (KP.refl _ _ _)⟩
        case round =>
          obtain ⟨k, rfl, hk, HM, HK⟩ := hrel
          clear c0
          by_cases hlt : k < n
          · obtain ⟨na, ca, ka, nc, cc, kc, cs, hO⟩ := HM.out
            have hfin := fun U xs ms pa va ra pc vc rcc np nk => rdel_fin hO (f + k) U xs ms pa va ra pc vc rcc np nk
            have hokk := hO.ok
            have hdel : delP (delN m f k) (f + k) = delN m f (k + 1) := rfl
            rw [hdel] at hfin
            generalize delN m f k = m1 at hO hfin hokk HM
            have HFIN := Lib.hid hfin
            have hlen := hO.co.len hO.ok
            have hnk : m1.mks.length ≤ 100000 := Nat.le_trans (mks_len hO.ok) (by decide)
            have hl1 := hO.ok.len
            have hl2 := hO.ok.bud
            have HIN : Hid (∀ c ∈ cs, c.1 / 256 < 65536) := Lib.hid (fun c hc => hokk.pl _ (hO.co.in_ c hc).1)
            have HIM : Hid (∀ g ∈ m1.mks.map (32 * ·), g / 256 < 65536) := Lib.hid (fun g hg => by
              obtain ⟨x, hx, rfl⟩ := List.mem_map.1 hg
              have := hokk.pl _ (hokk.ml x hx)
              show 32 * x / 256 < 65536
              omega)
            have HBX0 := Lib.hid hO.box
            have HRC0 := Lib.hid hO.rc
            have HRK0 := Lib.hid hO.rk
            have HRL := Lib.hid (hO.lt _ hO.fr)
            have HFW := Lib.hid hO.lt
            have hrn := hO.rn.1
            obtain ⟨np, hnp⟩ : ∃ z, m1.pgs.length = z := ⟨_, rfl⟩
            obtain ⟨nr, hnr⟩ : ∃ z, cs.length = z := ⟨_, rfl⟩
            obtain ⟨nk, hnk0⟩ : ∃ z, m1.mks.length = z := ⟨_, rfl⟩
            obtain ⟨bd, hbd0⟩ : ∃ z, m1.bud = z := ⟨_, rfl⟩
            rw [hnp, hnr, hnk0, hbd0] at HBX0
            rw [hnp] at hrn hl1
            rw [hnk0] at HRK0 hnk
            rw [hnr] at HRC0 hlen
            rw [hbd0] at HFIN
            have HNR := Lib.hid hnr
            have HNK := Lib.hid hnk0
            obtain ⟨p, hp⟩ : ∃ p, f + k = p := ⟨_, rfl⟩
            have hpz : (f : Int) + (k : Int) = (p : Int) := by omega
            rw [hp] at HFIN
            have HT1 := Lib.hid (take_any na np nc m1.pgs p wr hrn (by omega))
            have w5 : IntKind.u64.wrap (k : Int) = (k : Int) := by rw [IntKind.wrap_u64]; omega
            have w6 : IntKind.u64.wrap (p : Int) = (p : Int) := by rw [IntKind.wrap_u64]; omega
            have kk1 : (k : Int) < (n : Int) := by omega
            have hsz := HK.out.size
            have k0 : wr.cell? ⟨R, 0, none⟩ = some (.slice na np nc) := HBX0.out.cell 0
            clear hO hokk hfin hdel hrn hnp hnr hnk0 hbd0 hp HM hl1 hl2
            obtain ⟨pn, hpn⟩ : ∃ z, (m1.pgs.filter (· != p)).length = z := ⟨_, rfl⟩
            rw [hpn] at HT1
            have HPN := Lib.hid hpn
            clear hpn
            go_wp2_with fail
            refine HT1.out.mono ?_; rintro e U1 ⟨⟨pa, pc, rfl, hown⟩, hb1⟩
            have HBXa := Lib.hid (boxN_below HBX0.out hb1)
            have t0 : U1.cell? ⟨R, 0, none⟩ = some (.slice na np nc) := HBXa.out.cell 0
            have z0 : U1.frozen? ⟨R, 0, none⟩ = false := HBXa.out.frozen 0
            have HKa : Hid (KP wr.heap.size (· = R) wr (U1.setCell ⟨R, 0, none⟩ (.slice pa pn pc))) := Lib.hid ((KP.of_below (· = R) hb1).set ⟨R, 0, none⟩ (Or.inr rfl) _)
            have HBX1 := Lib.hid (show BoxN _ _ #[.slice pa pn pc, .slice ca nr cc, .slice ka nk kc, .int .i64 (bd : Int)] from HBXa.out.set 0 (.slice pa pn pc))
            have HP1 := Lib.hid (own_kp2 hown (KP.set1 U1 R 0 (.slice pa pn pc)) (by intro q hq e; have h1 : q = R := e; have := HRL.out; omega))
            clear hown hb1 k0 HBXa
            go_upto_region 15 with fail
            obtain ⟨V1, hV1⟩ : ∃ V, U1.setCell ⟨R, 0, none⟩ (.slice pa pn pc) = V := ⟨_, rfl⟩
            rw [hV1] at HKa HBX1 HP1 ⊢
            clear hV1 t0 z0
            have hs1 := HKa.out.size
            have HRC1 := Lib.hid (HRC0.out.blocks (W' := V1) (fun q hf hne => HKa.out.block q (HFW.out q hf) hne) hs1).1
            have HRK1 := Lib.hid (HRK0.out.blocks (W' := V1) (fun q hf hne => HKa.out.block q (HFW.out q hf) hne) hs1)
            clear HRC0 HRK0 HBX0
            go_wp2_with fail
            go_loopw [12, 13] (fun ov i wx => ∃ (j : Nat) (xs : List (Nat × Nat)) (v : Value), ov = v ∧ i = .int .i64 j ∧ j ≤ nr ∧ xs.length ≤ j ∧ Hid (xs = (cs.take j).filter (fun c => c.1 / 256 != p)) ∧ Hid (wx.ownsRow V1.heap.size 89 2 v xs.length (cellsC xs)) ∧ Hid (Below V1.heap.size V1 wx)) (fun _ i _ => nr - (intOf i).toNat)
            case atStart => exact ⟨0, [], _, rfl, rfl, by omega, by simp, Lib.hid (by simp), Lib.hid (World.ownsRow_nil _ _ _ _), Lib.hid (Below.refl _ _)⟩
            case round =>
              obtain ⟨j, xs, v, rfl, rfl, hj, hxj, HX, HO, HB⟩ := hrel
              have hszx := HB.out.size
              obtain ⟨va, vc, rfl, -⟩ := own_slice HO.out
              have HBX2 := Lib.hid (boxN_below HBX1.out HB.out)
              have cR : wr.cell? ⟨R, 1, none⟩ = some (.slice ca nr cc) := HBX2.out.cell 1
              by_cases hjl : j < nr
              · have hjc : j < cs.length := by rw [HNR.out]; exact hjl
                obtain ⟨b1, o1, e1, d0, d1⟩ := rd_cell (show Rd wr ca (cs.length * 2) (cellsC cs) by rw [HNR.out]; exact HRC1.out.below HB.out) hjc
                subst e1
                have htk : (cs.take (j + 1)).filter (fun c => c.1 / 256 != p) = (cs.take j).filter (fun c => c.1 / 256 != p) ++ (if cs[j].1 / 256 = p then [] else [cs[j]]) := by
                  rw [List.take_succ_eq_append_getElem hjc, List.filter_append]
                  congr 1
                  by_cases e : cs[j].1 / 256 = p
                  · rw [if_pos e]; simp [e]
                  · rw [if_neg e]; simp [e]
                have hq6 := HIN.out _ (List.getElem_mem hjc)
                obtain ⟨⟨x, y⟩, hx⟩ : ∃ x, cs[j] = x := ⟨_, rfl⟩
                rw [hx] at d0 d1 htk hq6
                simp only [] at d0 d1 htk hq6
                have jj0 : (0 : Int) ≤ (j : Int) := by omega
                have jj1 : (j : Int) < (nr : Int) := by omega
                have HTK := Lib.hid htk
                clear hx hjc htk
                obtain ⟨q, hq⟩ : ∃ q, x / 256 = q := ⟨_, rfl⟩
                have hqz : (x : Int) / 256 = (q : Int) := by omega
                have hqz2 : (x : Int).tdiv 256 = (q : Int) := by rw [Int.tdiv_eq_ediv_of_nonneg (by omega)]; exact hqz
                rw [hq] at HTK hq6
                clear hq
                have wq : IntKind.u64.wrap (q : Int) = (q : Int) := by rw [IntKind.wrap_u64]; omega
                by_cases hxp : q = p
                · subst hxp
                  have HX2 : Hid (xs = (cs.take (j + 1)).filter (fun c => c.1 / 256 != q)) := Lib.hid (by rw [HTK.out, if_pos rfl, List.append_nil]; exact HX.out)
                  go_wp2_with fail
                  go_roundw
                  case rel => exact ⟨j + 1, xs, _, rfl, by go_num, by omega, by omega, HX2, HO, HB⟩
                  case measure => simp [intOf]; omega
                · have hxi : ((q : Int) != (p : Int)) = true := by simp; omega
                  have hxi2 : ¬ (q : Int) = (p : Int) := by omega
                  have HX2 : Hid (xs ++ [(x, y)] = (cs.take (j + 1)).filter (fun c => c.1 / 256 != p)) := Lib.hid (by rw [HTK.out, if_neg hxp, HX.out])
                  have hlen2 : (xs ++ [(x, y)]).length = xs.length + 1 := by simp
                  have HLEN := Lib.hid hlen2
                  clear hlen2
                  go_wp2_with (at_builtin; refine wpList_appE 35 89 (.agg #[.int .u64 0, .int .u8 0]) 2 16 Try.underlying35 infoCell rfl (by decide) (by decide) _ rfl _ _ rfl V1.heap.size (.slice va xs.length vc) xs.length (cellsC xs) rfl (HO.out.alloc _) (some ⟨wr.heap.size, 0, none⟩) 1 1 [.int .u64 (x : Int), .int .u8 (y : Int)] rfl (Rd.lit wr #[.int .u64 (x : Int), .int .u8 (y : Int)] 89 (by show 2 ≤ maxLen; decide)) (fun u hu => by simp at hu; rcases hu with hu | hu <;> (subst hu; rfl)) (by omega) (by rw [size_alloc]; exact Nat.le_succ_of_le hszx) ?_; intro a1 c1 W1 hown1 hgrow1 hat1)
                  have HO1 := Lib.hid (show W1.ownsRow V1.heap.size 89 2 (.slice a1 (xs.length + 1) c1) (xs.length + 1) (cellsC (xs ++ [(x, y)])) by rw [cellsC_snoc]; exact hown1)
                  have HB1 := Lib.hid (grownB (bTrans HB.out (bAlloc (Below.refl _ _) (.cells #[.int .u64 (x : Int), .int .u8 (y : Int)] 89))) hgrow1 (fun r e => (HO.out.lt r e).1))
                  clear hown1 hgrow1 hat1
                  go_wp2_with fail
                  go_roundw
                  case rel => exact ⟨j + 1, xs ++ [(x, y)], _, rfl, by go_num, by omega, by rw [HLEN.out]; omega, HX2, by rw [HLEN.out]; exact HO1, HB1⟩
                  case measure => simp [intOf]; omega
              · obtain rfl : nr = j := by omega
                have hxl : xs = cs.filter (fun c => c.1 / 256 != p) := by
                  rw [HX.out, List.take_of_length_le (by rw [HNR.out]; exact Nat.le_refl _)]
                have HXL := Lib.hid hxl
                clear hxl
                have t1 : wr.cell? ⟨R, 1, none⟩ = some (.slice ca nr cc) := HBX2.out.cell 1
                have z1 : wr.frozen? ⟨R, 1, none⟩ = false := HBX2.out.frozen 1
                have HKb : Hid (KP wr.heap.size (· = R) wr (wr.setCell ⟨R, 1, none⟩ (.slice va xs.length vc))) := Lib.hid (KP.set1 wr R 1 (.slice va xs.length vc))
                have HBX3 := Lib.hid (show BoxN _ _ #[.slice pa pn pc, .slice va xs.length vc, .slice ka nk kc, .int .i64 (bd : Int)] from HBX2.out.set 1 (.slice va xs.length vc))
                have HRV : Hid (R < V1.heap.size) := Lib.hid (Nat.lt_of_lt_of_le HRL.out hs1)
                have HO3 := Lib.hid (own_kp2 HO.out (KP.set1 wr R 1 (.slice va xs.length vc)) (by intro q hq e; have h1 : q = R := e; have := HRV.out; omega))
                have HP3 := Lib.hid (own_kp2 (own_kp2 HP1.out (KP.of_below (fun _ => False) HB.out) (fun _ _ => id)) (KP.set1 wr R 1 (.slice va xs.length vc)) (by intro q hq e; have h1 : q = R := e; have := HRL.out; omega))
                go_upto_region 22 with fail
                obtain ⟨V2, hV2⟩ : ∃ V, wr.setCell ⟨R, 1, none⟩ (.slice va xs.length vc) = V := ⟨_, rfl⟩
                rw [hV2] at HKb HBX3 HO3 HP3 ⊢
                clear hV2 t1 z1 cR
                have HK2 : Hid (KP V1.heap.size (· = R) V1 V2) := Lib.hid ((KP.of_below (· = R) HB.out).trans (HKb.out.mono hszx (fun _ _ h => h)))
                have hs2 := HK2.out.size
                have HRK2 := Lib.hid (HRK1.out.blocks (W' := V2) (fun q hf hne => HK2.out.block q (by have := HFW.out q hf; omega) hne) hs2).1
                have HM2 := Lib.hid (HKa.out.trans (HK2.out.mono hs1 (fun _ _ h => h)))
                have hsw := HM2.out.size
                obtain ⟨ms, hms⟩ : ∃ ms, m1.mks.map (32 * ·) = ms := ⟨_, rfl⟩
                have hmsl : ms.length = nk := by rw [← hms, List.length_map]; exact HNK.out
                rw [hms] at HFIN HRK2 HIM
                have HMSL := Lib.hid hmsl
                clear HX HB HO HKb HBX2 hms hmsl HRK1
                go_wp2_with fail
                go_loopw [14, 15] (fun ov i wx => ∃ (j : Nat) (ys : List Nat) (v : Value), ov = v ∧ i = .int .i64 j ∧ j ≤ nk ∧ ys.length ≤ j ∧ Hid (ys = (ms.take j).filter (fun g => g / 256 != p)) ∧ Hid (wx.ownsRow V2.heap.size 39 1 v ys.length (u64s ys)) ∧ Hid (Below V2.heap.size V2 wx)) (fun _ i _ => nk - (intOf i).toNat)
                case atStart => exact ⟨0, [], _, rfl, rfl, by omega, by simp, Lib.hid (by simp), Lib.hid (World.ownsRow_nil _ _ _ _), Lib.hid (Below.refl _ _)⟩
                case round =>
                  obtain ⟨j, ys, v, rfl, rfl, hj, hyj, HY, HO, HB⟩ := hrel
                  have hszy := HB.out.size
                  obtain ⟨ya, yc, rfl, -⟩ := own_slice HO.out
                  have HBX4 := Lib.hid (boxN_below HBX3.out HB.out)
                  have cR : wr.cell? ⟨R, 2, none⟩ = some (.slice ka nk kc) := HBX4.out.cell 2
                  by_cases hjl : j < nk
                  · have hjc : j < ms.length := by rw [HMSL.out]; exact hjl
                    obtain ⟨b1, o1, e1, hb1, d0⟩ := (HRK2.out.below HB.out).at_ hjl
                    subst e1
                    rw [u64s_get ms j hjc] at d0
                    have htk : (ms.take (j + 1)).filter (fun g => g / 256 != p) = (ms.take j).filter (fun g => g / 256 != p) ++ (if ms[j] / 256 = p then [] else [ms[j]]) := by
                      rw [List.take_succ_eq_append_getElem hjc, List.filter_append]
                      congr 1
                      by_cases e : ms[j] / 256 = p
                      · rw [if_pos e]; simp [e]
                      · rw [if_neg e]; simp [e]
                    have hq6 := HIM.out _ (List.getElem_mem hjc)
                    obtain ⟨x, hx⟩ : ∃ x, ms[j] = x := ⟨_, rfl⟩
                    rw [hx] at d0 htk hq6
                    have jj0 : (0 : Int) ≤ (j : Int) := by omega
                    have jj1 : (j : Int) < (nk : Int) := by omega
                    have HTK := Lib.hid htk
                    clear hx hjc htk
                    obtain ⟨q, hq⟩ : ∃ q, x / 256 = q := ⟨_, rfl⟩
                    have hqz : (x : Int) / 256 = (q : Int) := by omega
                    have hqz2 : (x : Int).tdiv 256 = (q : Int) := by rw [Int.tdiv_eq_ediv_of_nonneg (by omega)]; exact hqz
                    rw [hq] at HTK hq6
                    clear hq
                    have wq : IntKind.u64.wrap (q : Int) = (q : Int) := by rw [IntKind.wrap_u64]; omega
                    by_cases hxp : q = p
                    · subst hxp
                      have HY2 : Hid (ys = (ms.take (j + 1)).filter (fun g => g / 256 != q)) := Lib.hid (by rw [HTK.out, if_pos rfl, List.append_nil]; exact HY.out)
                      go_wp2_with fail
                      go_roundw
                      case rel => exact ⟨j + 1, ys, _, rfl, by go_num, by omega, by omega, HY2, HO, HB⟩
                      case measure => simp [intOf]; omega
                    · have HY2 : Hid (ys ++ [x] = (ms.take (j + 1)).filter (fun g => g / 256 != p)) := Lib.hid (by rw [HTK.out, if_neg hxp, HY.out])
                      have hlen2 : (ys ++ [x]).length = ys.length + 1 := by simp
                      have HLEN := Lib.hid hlen2
                      clear hlen2
                      go_wp2_with (at_builtin; refine wpList_appE 32 39 (.int .u64 0) 1 8 Try.underlying32 infoU64 rfl (by decide) (by decide) _ rfl _ _ rfl V2.heap.size (.slice ya ys.length yc) ys.length (u64s ys) rfl (HO.out.alloc _) (some ⟨wr.heap.size, 0, none⟩) 1 1 [.int .u64 (x : Int)] rfl (Rd.lit wr #[.int .u64 (x : Int)] 39 (by show 1 ≤ maxLen; decide)) (fun u hu => by simp at hu; subst hu; rfl) (by omega) (by rw [size_alloc]; exact Nat.le_succ_of_le hszy) ?_; intro a1 c1 W1 hown1 hgrow1 hat1)
                      have HO1 := Lib.hid (show W1.ownsRow V2.heap.size 39 1 (.slice a1 (ys.length + 1) c1) (ys.length + 1) (u64s (ys ++ [x])) by rw [u64s_snoc]; exact hown1)
                      have HB1 := Lib.hid (grownB (bTrans HB.out (bAlloc (Below.refl _ _) (.cells #[.int .u64 (x : Int)] 39))) hgrow1 (fun r e => (HO.out.lt r e).1))
                      clear hown1 hgrow1 hat1
                      go_wp2_with fail
                      go_roundw
                      case rel => exact ⟨j + 1, ys ++ [x], _, rfl, by go_num, by omega, by rw [HLEN.out]; omega, HY2, by rw [HLEN.out]; exact HO1, HB1⟩
                      case measure => simp [intOf]; omega
                  · obtain rfl : nk = j := by omega
                    have hyl : ys = ms.filter (fun g => g / 256 != p) := by
                      rw [HY.out, List.take_of_length_le (by rw [HMSL.out]; exact Nat.le_refl _)]
                    have HYL := Lib.hid hyl
                    clear hyl
                    obtain ⟨U2, hU2⟩ : ∃ U2, wr = U2 := ⟨_, rfl⟩
                    rw [hU2] at HB HO HBX4 cR hszy ⊢
                    have z2 : U2.frozen? ⟨R, 2, none⟩ = false := HBX4.out.frozen 2
                    have HRV : Hid (R < V2.heap.size) := Lib.hid (by have := HRV.out; omega)
                    have HBX5 := Lib.hid (show BoxN _ _ #[.slice pa pn pc, .slice va xs.length vc, .slice ya ys.length yc, .int .i64 (bd : Int)] from HBX4.out.set 2 (.slice ya ys.length yc))
                    have HO5 := Lib.hid (own_kp2 HO.out (KP.set1 U2 R 2 (.slice ya ys.length yc)) (by intro q hq e; have h1 : q = R := e; have := HRV.out; omega))
                    have HX5 := Lib.hid (own_kp2 (own_kp2 HO3.out (KP.of_below (fun _ => False) HB.out) (fun _ _ => id)) (KP.set1 U2 R 2 (.slice ya ys.length yc)) (by intro q hq e; have h1 : q = R := e; have := HRL.out; omega))
                    have HP5 := Lib.hid (own_kp2 (own_kp2 HP3.out (KP.of_below (fun _ => False) HB.out) (fun _ _ => id)) (KP.set1 U2 R 2 (.slice ya ys.length yc)) (by intro q hq e; have h1 : q = R := e; have := HRL.out; omega))
                    have HK5 := Lib.hid (HM2.out.trans (((KP.of_below (· = R) HB.out).trans ((KP.set1 U2 R 2 (.slice ya ys.length yc)).mono hszy (fun _ _ h => h))).mono (by omega) (fun _ _ h => h)))
                    have hst := HFIN.out _ xs ys pa va ya pc vc yc pn ys.length HK5.out HXL.out HYL.out HPN.out.symm rfl HBX5.out HP5.out (own_base HX5.out (by omega)) (own_base HO5.out (by omega))
                    have HST := Lib.hid hst
                    clear hst HK5 HP5 HX5 HO5 HBX5
                    clear hU2 HRC1 HRK2 HP3 HO3 HP1 HM2 HK2 HKa HMSL
                    go_wp2_with fail
                    obtain ⟨W3, hW3⟩ : ∃ W3, U2.setCell ⟨R, 2, none⟩ (.slice ya ys.length yc) = W3 := ⟨_, rfl⟩
                    rw [hW3] at HST ⊢
                    have hs3 := HST.out.2.size
                    have HM3 := Lib.hid (HST.out.1.mono (fn_step hsz hs3) (fun q hq => by
                      rcases hq with hq | hq
                      · have := HFL.out q hq; omega
                      · exact hq.2))
                    have HK3 := Lib.hid (HK.out.trans (HST.out.2.mono hsz (fun q hq e => by
                      rcases e with e | e
                      · exact e
                      · omega)))
                    clear hW3 cR z2
                    go_roundw
                    case rel => exact ⟨k + 1, by go_num, by omega, HM3, HK3⟩
                    case measure => simp [intOf]; omega
          · obtain rfl : n = k := by omega
            go_wp2_with fail
            go_ret
            rw [HPP.out]
            exact ⟨rfl, HM.out, HK.out⟩
end Go.Proofs.Ytgfkjlknkbdjiaa
