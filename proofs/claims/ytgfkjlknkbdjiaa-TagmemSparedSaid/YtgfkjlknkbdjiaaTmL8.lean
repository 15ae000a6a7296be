/- With an error nothing is changed: contract. -/
import Derived.Test.YtgfkjlknkbdjiaaTmL6
import Derived.Test.YtgfkjlknkbdjiaaTmLs
namespace Go.Proofs.Ytgfkjlknkbdjiaa
set_option linter.unusedVariables false
set_option linter.unusedSimpArgs false
open Go.Joins Go.ChangeShapes Go.WideShapes Go.ChangeAt Go.RowKit Go.Deep

set_option maxRecDepth 100000 in
set_option maxHeartbeats 4000000 in
theorem spared_walk (W : World) (S : Nat) (hS : W.heap.size = S) (b : Int) (la : Option Addr) (lc : Nat) (l : List Opr) (hl : RdP W S la l) (d : Int) (a : Nat) (n w cb ct ca cp cy : Int) (cg : Bool) (ol : List Nat) (ba : Option Addr) (bc : Nat) (hf : FitO W S ⟨d, a, n, w, ⟨cb, ct, ca, cp, cy, cg⟩, ol, ba, bc⟩) :
    Calls Try.prog 5 #[.int .i64 b, .slice la l.length lc, .agg (opC ⟨d, a, n, w, ⟨cb, ct, ca, cp, cy, cg⟩, ol, ba, bc⟩)] W fun e W' => e = .returned (.bool true) ∧ Below S W W' := by
  have HL := Lib.hid hl
  have HMA := Lib.hid (fun W1 (h : RdP W1 W1.heap.size la l) => made_any W1 b la lc l h)
  obtain ⟨ll, hll⟩ : ∃ n, l.length = n := ⟨_, rfl⟩
  rw [hll] at HMA ⊢
  clear hl hll
  have hop : opC ⟨d, a, n, w, ⟨cb, ct, ca, cp, cy, cg⟩, ol, ba, bc⟩ = #[.int .i64 d, .int .u64 (a : Int), .int .i64 n, .int .u64 w, .int .u64 cb, .int .u64 ct, .int .u64 ca, .int .i64 cp, .int .i64 cy, .bool cg, .slice ba ol.length bc] := rfl
  rw [hop]
  clear hop
  obtain ⟨c, hc⟩ : ∃ c : Cp, (⟨cb, ct, ca, cp, cy, cg⟩ : Cp) = c := ⟨_, rfl⟩
  have hcc : (capC c).toArray = #[.int .u64 cb, .int .u64 ct, .int .u64 ca, .int .i64 cp, .int .i64 cy, .bool cg] := by rw [← hc]; rfl
  rw [hc] at hf
  have HF := Lib.hid hf
  obtain ⟨on, hon⟩ : ∃ k, ol.length = k := ⟨_, rfl⟩
  have HON := Lib.hid hon
  rw [hon]
  have HRI := Lib.hid (fun W2 => right_any c W2)
  simp only [hcc] at HRI
  have HCC := Lib.hid hcc
  obtain ⟨W0, hW0⟩ : ∃ W0, W.alloc (.cells #[.int .i64 d, .int .u64 (a : Int), .int .i64 n, .int .u64 w, .int .u64 cb, .int .u64 ct, .int .u64 ca, .int .i64 cp, .int .i64 cy, .bool cg, .slice ba on bc] 53) = W0 := ⟨_, rfl⟩
  have HB0 : Hid (Below S W W0) := Lib.hid (by rw [← hW0, ← hS]; exact bAlloc (Below.refl _ _) _)
  have HX0 : Hid (BoxN W0 S #[.int .i64 d, .int .u64 (a : Int), .int .i64 n, .int .u64 w, .int .u64 cb, .int .u64 ct, .int .u64 ca, .int .i64 cp, .int .i64 cy, .bool cg, .slice ba on bc]) := Lib.hid (by rw [← hW0, ← hS]; exact BoxN.new W _ _)
  clear hf hc hcc hon
  go_enter Try.func5, Try.ntmps5
  go_upto_region 1 with fail
  (try simp only [hW0, hS])
  clear hW0
  have HS := Lib.hid hS
  clear hS
  go_wp2_with fail
  refine (awake_any _).mono ?_
  rintro e W1 ⟨rfl, hb1⟩
  have HB1 := Lib.hid (HB0.out.trans (hb1.mono (Nat.le_of_lt HX0.out.lt)))
  have HX1 := Lib.hid (boxN_below HX0.out hb1)
  have HM := Lib.hid (HMA.out W1 ((HL.out.below HB1.out).mono (Nat.le_of_lt HX1.out.lt)))
  clear hb1 HMA HX0 HB0
  go_wp2_with fail
  refine HM.out.mono ?_
  rintro e W2 ⟨hmm, hb2⟩
  have HMM := Lib.hid hmm
  have HB2 := Lib.hid (HB1.out.trans (hb2.mono (Nat.le_of_lt HX1.out.lt)))
  have HX2 := Lib.hid (boxN_below HX1.out hb2)
  obtain ⟨rb, hrb⟩ : ∃ r, rightB c = r := ⟨_, rfl⟩
  have C := Lib.hid (HRI.out W2)
  rw [hrb] at C
  have HRB := Lib.hid hrb
  clear hmm hb2 HM hrb HRI
  have u4 : W2.cell? ⟨S, 4, none⟩ = some (.int .u64 cb) := HX2.out.cell 4
  have u5 : W2.cell? ⟨S, 5, none⟩ = some (.int .u64 ct) := HX2.out.cell 5
  have u6 : W2.cell? ⟨S, 6, none⟩ = some (.int .u64 ca) := HX2.out.cell 6
  have u7 : W2.cell? ⟨S, 7, none⟩ = some (.int .i64 cp) := HX2.out.cell 7
  have u8 : W2.cell? ⟨S, 8, none⟩ = some (.int .i64 cy) := HX2.out.cell 8
  have u9 : W2.cell? ⟨S, 9, none⟩ = some (.bool cg) := HX2.out.cell 9

  rcases HMM.out with ⟨hno, rfl⟩ | ⟨hno, M, rfl, hso⟩
  · clear hno
    go_wp2_with fail
    refine C.out.mono ?_
    rintro e W3 ⟨rfl, hb⟩
    have HB3 := Lib.hid (HB2.out.trans (hb.mono (Nat.le_of_lt HX2.out.lt)))
    clear hb C
    go_wp2_with fail
    go_ret
    exact ⟨by simp, HB3.out⟩
  · obtain ⟨F, ho⟩ := hso.own
    have O2 := Lib.hid (ho.low (N' := S + 1) HX1.out.lt)
    obtain ⟨m, hm⟩ : ∃ m, madeM b l = m := ⟨_, rfl⟩
    rw [hm] at O2
    clear ho hso hno hm HMM HX1
    go_wp2_with fail
    refine C.out.mono ?_
    rintro e W3 ⟨rfl, hb⟩
    have HB3 := Lib.hid (HB2.out.trans (hb.mono (Nat.le_of_lt HX2.out.lt)))
    have HX3 := Lib.hid (boxN_below HX2.out hb)
    have O3 := Lib.hid (O2.out.below hb)
    clear hb C O2 u4 u5 u6 u7 u8 u9 HX2 HB2
    have x10 : W3.cell? ⟨S, 10, none⟩ = some (.slice ba on bc) := HX3.out.cell 10

    cases rb with
    | false =>
      go_wp2_with fail
      go_ret
      exact ⟨by simp, HB3.out⟩
    | true =>
      by_cases hl6 : 600 < on
      · have hlz : (600 : Int) < (on : Int) := by omega
        go_wp2_with fail
        go_ret
        exact ⟨by simp, HB3.out⟩
      have hlz : ¬ (600 : Int) < (on : Int) := by omega
      have hcd : decide ((600 : Int) < (on : Int)) = false := decide_eq_false hlz
      clear hl6
      obtain ⟨q, hq⟩ : ∃ q, m.pgs.length = q := ⟨_, rfl⟩
      have HPL := Lib.hid hq
      have C := Lib.hid (spages_any W3 (S + 1) M F m O3.out)
      rw [hq] at C
      clear hq
      go_wp2_with fail
      refine C.out.mono ?_
      rintro e W4 ⟨pa, pc, rfl, hor, hb⟩
      clear hcd hlz
      have hq0 := own_max hor
      have P4 := Lib.hid (RdX.new O3.out hor)
      have O4 := Lib.hid (O3.out.below hb)
      have B4 := Lib.hid (HB3.out.trans (hb.mono (Nat.le_of_lt HX3.out.lt)))
      have X4 := Lib.hid (boxN_below HX3.out hb)
      clear hor hb C HB3 O3 HX3 x10
      obtain ⟨T, hT⟩ : ∃ T, m.mks.map (32 * ·) = T := ⟨_, rfl⟩
      have hT2 : m.mks.length = T.length := by rw [← hT, List.length_map]
      obtain ⟨t, ht⟩ : ∃ k, T.length = k := ⟨_, rfl⟩
      have C := Lib.hid (stags_any W4 (S + 1) M F m O4.out)
      have HTAG := Lib.hid (fun Wz (F2 : Nat → Prop) (h : Own1 Wz (S + 1) F2 M m) => stags_any Wz (S + 1) M F2 m h)
      simp only [hT2, hT, ht] at C HTAG
      clear hT hT2 ht
      go_wp2_with fail
      refine C.out.mono ?_
      rintro e W5 ⟨ta, tc, rfl, hor, hb⟩
      have ht0 := own_max hor
      have T5 := Lib.hid (RdX.new O4.out hor)
      have P5 := Lib.hid (P4.out.move (Moves.of_below F hb))
      have O5 := Lib.hid (O4.out.below hb)
      have B5 := Lib.hid (B4.out.trans (hb.mono (Nat.le_of_lt X4.out.lt)))
      have X5 := Lib.hid (boxN_below X4.out hb)
      clear hor hb C P4 O4 B4 X4
      go_wp2_with fail
      have HZ : Hid (W5.ownsRow W5.heap.size 5 1 (.slice none 0 0) (256 * 0) (u8s (flatB m (m.pgs.take 0)))) := Lib.hid (by rw [List.take_zero]; exact World.ownsRow_nil _ _ _ _)
      go_loopw [12, 13] (fun bv i wr => ∃ k : Nat, i = .int .i64 k ∧ k ≤ q ∧ Hid (wr.ownsRow W5.heap.size 5 1 bv (256 * k) (u8s (flatB m (m.pgs.take k)))) ∧ Hid (Below W5.heap.size W5 wr)) (fun _ i _ => q - (intOf i).toNat)
      case atStart => exact ⟨0, rfl, by omega, HZ, Lib.hid (Below.refl _ _)⟩
      case round =>
        clear HZ
        obtain ⟨k, rfl, hk, HO, HBk⟩ := hrel
        obtain ⟨ra, rc, rfl, hrc⟩ := own_slice HO.out
        by_cases hlt : k < q
        · obtain ⟨b1, o1, ea, hb1, d0⟩ := (P5.out.1.below HBk.out).at_ hlt
          have hkl : k < m.pgs.length := by rw [HPL.out]; exact hlt
          rw [u64s_get m.pgs k hkl] at d0
          have hsn := flatB_snoc m m.pgs k hkl
          have hpb := page_bytes (m := m) (List.getElem_mem hkl)
          have hp6 := O5.out.ok.pl _ (List.getElem_mem hkl)
          obtain ⟨p, hp⟩ : ∃ p, m.pgs[k] = p := ⟨_, rfl⟩
          rw [hp] at d0 hsn hpb hp6
          obtain ⟨pp, hpp⟩ : ∃ x, p * 256 = x := ⟨_, rfl⟩
          have w1 : IntKind.u64.wrap ((p : Int) * 256) = (pp : Int) := by rw [IntKind.wrap_u64]; omega
          rw [hpp] at hsn hpb
          have C := Lib.hid (sbytes_any wr (S + 1) M _ m (O5.out.below HBk.out) pp 256 (by omega) (by decide) (by decide))
          obtain ⟨Z, hZ⟩ : ∃ Z, bytesF m (pp : Int) 256 = Z := ⟨_, rfl⟩
          have hzl : Z.length = 256 := by rw [← hZ, hpb, manyB_len]
          rw [hZ, hzl] at C
          rw [hZ] at hsn
          have HSN := Lib.hid hsn
          obtain ⟨kk, hkk⟩ : ∃ x, 256 * k = x := ⟨_, rfl⟩
          rw [hkk] at HO
          have HK : Hid (256 * (k + 1) = kk + 256 ∧ kk ≤ 65536 ∧ k + 1 ≤ q) := Lib.hid (by have h1 := O5.out.ok.len; have h2 := O5.out.ok.bud; have h3 := HPL.out; omega)
          rw [hkk]
          have kk0 : (0 : Int) ≤ (k : Int) := by omega
          have kk1 : (k : Int) < (q : Int) := by omega
          subst ea
          clear hkl hsn hpb hp6 hp hpp hZ hzl hkk hb1 hk hlt
          go_wp2_with fail
          refine C.out.mono ?_
          rintro e Wn ⟨⟨xa, xc, rfl, hor⟩, hb⟩
          have HO2 := Lib.hid (own_kp2 HO.out (KP.of_below (fun _ => False) hb) (fun _ _ => id))
          have HR2 := Lib.hid (row_later hor (Below.refl _ _))
          have HB2 := Lib.hid (HBk.out.trans (hb.mono HBk.out.size))
          have hsz := HB2.out.size
          clear hor hb C HO HBk
          go_wp2_with (at_builtin; refine wpList_appE 51 5 (.int .u8 0) 1 1 Try.underlying51 infoU8m rfl (by decide) (by decide) _ rfl _ _ rfl W5.heap.size (.slice ra kk rc) kk (u8s (flatB m (m.pgs.take k))) rfl HO2.out xa 256 xc (u8s Z) rfl (by rw [Nat.mul_one]; exact HR2.out) (u8s_one _) (by have := HK.out; omega) hsz ?_; intro a3 c3 W3 hown3 hgrow3 hat3)
          have HO3 := Lib.hid (show W3.ownsRow W5.heap.size 5 1 (.slice a3 (kk + 256) c3) (256 * (k + 1)) (u8s (flatB m (m.pgs.take (k + 1)))) by rw [HSN.out, u8s_append, HK.out.1]; exact hown3)
          have HB3 := Lib.hid (grownB HB2.out hgrow3 (fun r e => (HO2.out.lt r e).1))
          clear hown3 hgrow3 hat3 HB2 HO2 HR2
          go_wp2_with fail
          go_roundw
          case rel => exact ⟨k + 1, by go_num, HK.out.2.2, HO3, HB3⟩
          case measure => have := HK.out; simp [intOf]; omega
        · obtain rfl : q = k := by omega
          have R6 := Lib.hid (RdX.new O5.out HO.out)
          have hr0 := own_max HO.out
          have P6 := Lib.hid (P5.out.move (Moves.of_below F HBk.out))
          have T6 := Lib.hid (T5.out.move (Moves.of_below F HBk.out))
          have O6 := Lib.hid (O5.out.below HBk.out)
          have B6 := Lib.hid (B5.out.trans (HBk.out.mono (Nat.le_of_lt X5.out.lt)))
          have X6 := Lib.hid (boxN_below X5.out HBk.out)
          rw [show m.pgs.take q = m.pgs by rw [← HPL.out]; exact List.take_length] at R6
          obtain ⟨FB, hFB⟩ : ∃ x, flatB m m.pgs = x := ⟨_, rfl⟩
          rw [hFB] at R6
          have HFB := Lib.hid hFB
          obtain ⟨nb, hnb⟩ : ∃ x, 256 * q = x := ⟨_, rfl⟩
          rw [hnb] at R6 hr0
          have HNB := Lib.hid hnb
          rw [hnb]
          clear hFB hnb HO HBk hlt hk O5 T5 P5 B5 X5 hrc
          have y0 : wr.cell? ⟨S, 0, none⟩ = some (.int .i64 d) := X6.out.cell 0
          have y1 : wr.cell? ⟨S, 1, none⟩ = some (.int .u64 (a : Int)) := X6.out.cell 1
          have y2 : wr.cell? ⟨S, 2, none⟩ = some (.int .i64 n) := X6.out.cell 2
          have y3 : wr.cell? ⟨S, 3, none⟩ = some (.int .u64 w) := X6.out.cell 3
          have y4 : wr.cell? ⟨S, 4, none⟩ = some (.int .u64 cb) := X6.out.cell 4
          have y5 : wr.cell? ⟨S, 5, none⟩ = some (.int .u64 ct) := X6.out.cell 5
          have y6 : wr.cell? ⟨S, 6, none⟩ = some (.int .u64 ca) := X6.out.cell 6
          have y7 : wr.cell? ⟨S, 7, none⟩ = some (.int .i64 cp) := X6.out.cell 7
          have y8 : wr.cell? ⟨S, 8, none⟩ = some (.int .i64 cy) := X6.out.cell 8
          have y9 : wr.cell? ⟨S, 9, none⟩ = some (.bool cg) := X6.out.cell 9
          have y10 : wr.cell? ⟨S, 10, none⟩ = some (.slice ba on bc) := X6.out.cell 10
          by_cases g1 : d = 1
          · subst g1
            obtain ⟨⟨m1, e1⟩, hm1⟩ : ∃ x, mapF m (a : Int) n = x := ⟨_, rfl⟩
            have HE := Lib.hid (mapF_err m (a : Int) n)
            have C := Lib.hid (smap_any _ (S + 1) M F m O6.out (a : Int) n (by omega) (by have h : a < 18446744073709551616 := HF.out.a; omega) HF.out.n0 HF.out.n1)
            rw [hm1] at HE C
            
            dsimp only at C HE
            clear hm1
            go_wp2_with fail
            refine C.out.mono ?_
            rintro e W7 ⟨rfl, F2, h1, mv⟩
            have B7 := Lib.hid (B6.out.trans ((mv.belowN O6.out).mono (Nat.le_succ S)))
            have P7 := Lib.hid (P6.out.move mv)
            have T7 := Lib.hid (T6.out.move mv)
            have R7 := Lib.hid (R6.out.move mv)
            by_cases he : e1 = 0
            · subst he
              clear h1 mv C HE O6 P6 T6 R6 B6
              go_wp2_with fail
              go_ret
              exact ⟨by simp, B7.out⟩
            rw [HE.out he] at h1
            have O7 := Lib.hid h1
            have hS7 : S < W7.heap.size := by have := mv.kp.size; have := X6.out.lt; omega
            have hcd : (e1 == 0) = false := beq_eq_false_iff_ne.2 he
            clear h1 mv C HE O6 P6 T6 R6 B6 X6 y0 y1 y2 y3 y4 y5 y6 y7 y8 y9 y10
            have C := Lib.hid (spages_any W7 (S + 1) M F2 m O7.out)
            rw [HPL.out] at C
            go_wp2_with fail
            refine C.out.mono ?_
            rintro e W8 ⟨qa, qc, rfl, hor, hb⟩
            clear hcd he
            have Q8 := Lib.hid (RdX.new O7.out hor)
            have P8 := Lib.hid (P7.out.move (Moves.of_below F2 hb))
            have T8 := Lib.hid (T7.out.move (Moves.of_below F2 hb))
            have R8 := Lib.hid (R7.out.move (Moves.of_below F2 hb))
            have O8 := Lib.hid (O7.out.below hb)
            have B8 := Lib.hid (B7.out.trans (hb.mono (Nat.le_of_lt hS7)))
            have hS8 := Nat.lt_of_lt_of_le hS7 hb.size
            clear hor hb C P7 T7 R7 O7 B7 hS7
            have C := Lib.hid (HTAG.out W8 F2 O8.out)
            go_wp2_with fail
            refine C.out.mono ?_
            rintro e W9 ⟨ua, uc, rfl, hor, hb⟩
            have U9 := Lib.hid (RdX.new O8.out hor)
            have Q9 := Lib.hid (Q8.out.move (Moves.of_below F2 hb))
            have P9 := Lib.hid (P8.out.move (Moves.of_below F2 hb))
            have T9 := Lib.hid (T8.out.move (Moves.of_below F2 hb))
            have R9 := Lib.hid (R8.out.move (Moves.of_below F2 hb))
            have O9 := Lib.hid (O8.out.below hb)
            have B9 := Lib.hid (B8.out.trans (hb.mono (Nat.le_of_lt hS8)))
            have hS9 := Nat.lt_of_lt_of_le hS8 hb.size
            clear hor hb C P8 T8 R8 O8 B8 hS8 Q8 HTAG
            go_wp2_with fail
            have HZ : Hid (W9.ownsRow W9.heap.size 5 1 (.slice none 0 0) (256 * 0) (u8s (flatB m (m.pgs.take 0)))) := Lib.hid (by rw [List.take_zero]; exact World.ownsRow_nil _ _ _ _)
            go_loopw [17, 18] (fun bv i wr => ∃ k : Nat, i = .int .i64 k ∧ k ≤ q ∧ Hid (wr.ownsRow W9.heap.size 5 1 bv (256 * k) (u8s (flatB m (m.pgs.take k)))) ∧ Hid (Below W9.heap.size W9 wr)) (fun _ i _ => q - (intOf i).toNat)
            case atStart => exact ⟨0, rfl, by omega, HZ, Lib.hid (Below.refl _ _)⟩
            case round =>
              clear HZ
              obtain ⟨k, rfl, hk, HO, HBk⟩ := hrel
              obtain ⟨sa, sc, rfl, hrc⟩ := own_slice HO.out
              by_cases hlt : k < q
              · obtain ⟨b1, o1, ea, hb1, d0⟩ := (Q9.out.1.below HBk.out).at_ hlt
                have hkl : k < m.pgs.length := by rw [HPL.out]; exact hlt
                rw [u64s_get m.pgs k hkl] at d0
                have hsn := flatB_snoc m m.pgs k hkl
                have hpb := page_bytes (m := m) (List.getElem_mem hkl)
                have hp6 := O9.out.ok.pl _ (List.getElem_mem hkl)
                obtain ⟨p, hp⟩ : ∃ p, m.pgs[k] = p := ⟨_, rfl⟩
                rw [hp] at d0 hsn hpb hp6
                obtain ⟨pp, hpp⟩ : ∃ x, p * 256 = x := ⟨_, rfl⟩
                have w1 : IntKind.u64.wrap ((p : Int) * 256) = (pp : Int) := by rw [IntKind.wrap_u64]; omega
                rw [hpp] at hsn hpb
                have C := Lib.hid (sbytes_any wr (S + 1) M _ m (O9.out.below HBk.out) pp 256 (by omega) (by decide) (by decide))
                obtain ⟨Z, hZ⟩ : ∃ Z, bytesF m (pp : Int) 256 = Z := ⟨_, rfl⟩
                have hzl : Z.length = 256 := by rw [← hZ, hpb, manyB_len]
                rw [hZ, hzl] at C
                rw [hZ] at hsn
                have HSN := Lib.hid hsn
                obtain ⟨kk, hkk⟩ : ∃ x, 256 * k = x := ⟨_, rfl⟩
                rw [hkk] at HO
                have HK : Hid (256 * (k + 1) = kk + 256 ∧ kk ≤ 65536 ∧ k + 1 ≤ q) := Lib.hid (by have h1 := O9.out.ok.len; have h2 := O9.out.ok.bud; have h3 := HPL.out; omega)
                rw [hkk]
                have kk0 : (0 : Int) ≤ (k : Int) := by omega
                have kk1 : (k : Int) < (q : Int) := by omega
                subst ea
                clear hkl hsn hpb hp6 hp hpp hZ hzl hkk hb1 hk hlt
                go_wp2_with fail
                refine C.out.mono ?_
                rintro e Wn ⟨⟨xa, xc, rfl, hor⟩, hb⟩
                have HO2 := Lib.hid (own_kp2 HO.out (KP.of_below (fun _ => False) hb) (fun _ _ => id))
                have HR2 := Lib.hid (row_later hor (Below.refl _ _))
                have HB2 := Lib.hid (HBk.out.trans (hb.mono HBk.out.size))
                have hsz := HB2.out.size
                clear hor hb C HO HBk
                go_wp2_with (at_builtin; refine wpList_appE 51 5 (.int .u8 0) 1 1 Try.underlying51 infoU8m rfl (by decide) (by decide) _ rfl _ _ rfl W9.heap.size (.slice sa kk sc) kk (u8s (flatB m (m.pgs.take k))) rfl HO2.out xa 256 xc (u8s Z) rfl (by rw [Nat.mul_one]; exact HR2.out) (u8s_one _) (by have := HK.out; omega) hsz ?_; intro a3 c3 W3 hown3 hgrow3 hat3)
                have HO3 := Lib.hid (show W3.ownsRow W9.heap.size 5 1 (.slice a3 (kk + 256) c3) (256 * (k + 1)) (u8s (flatB m (m.pgs.take (k + 1)))) by rw [HSN.out, u8s_append, HK.out.1]; exact hown3)
                have HB3 := Lib.hid (grownB HB2.out hgrow3 (fun r e => (HO2.out.lt r e).1))
                clear hown3 hgrow3 hat3 HB2 HO2 HR2
                go_wp2_with fail
                go_roundw
                case rel => exact ⟨k + 1, by go_num, HK.out.2.2, HO3, HB3⟩
                case measure => have := HK.out; simp [intOf]; omega
              · obtain rfl : q = k := by omega
                have V9 := Lib.hid (RdX.new O9.out HO.out)
                rw [show m.pgs.take q = m.pgs by rw [← HPL.out]; exact List.take_length, HFB.out, HNB.out] at V9
                have Pa := Lib.hid (P9.out.1.below HBk.out)
                have Qa := Lib.hid (Q9.out.1.below HBk.out)
                have Ta := Lib.hid (T9.out.1.below HBk.out)
                have Ua := Lib.hid (U9.out.1.below HBk.out)
                have Ra := Lib.hid (R9.out.1.below HBk.out)
                have Ba := Lib.hid (B9.out.trans (HBk.out.mono (Nat.le_of_lt hS9)))
                have hSa := Nat.lt_of_lt_of_le hS9 HBk.out.size
                rw [HNB.out]
                clear HO HBk hlt hk O9 T9 P9 Q9 U9 R9 B9 hS9 hrc
                have C := Lib.hid (usame_any pa qa q pc q qc m.pgs m.pgs _ Pa.out Qa.out (by omega) (by omega))
                go_wp2_with fail
                refine C.out.mono ?_
                rintro e Wb ⟨rfl, hb⟩
                have C2 := Lib.hid (usame_any ta ua t tc t uc T T Wb (Ta.out.below hb) (Ua.out.below hb) (by omega) (by omega))
                have Rb := Lib.hid (Ra.out.below hb)
                have Vb := Lib.hid (V9.out.1.below hb)
                have Bb := Lib.hid (Ba.out.trans (hb.mono (Nat.le_of_lt hSa)))
                have hSb := Nat.lt_of_lt_of_le hSa hb.size
                clear hb C Pa Qa Ta Ua Ra V9 Ba hSa
                go_wp2_with fail
                refine C2.out.mono ?_
                rintro e Wc ⟨rfl, hb⟩
                have C3 := Lib.hid (same_any ra sa nb rc nb sc FB FB Wc (Rb.out.below hb) (Vb.out.below hb) (by omega) (by omega))
                have Bc := Lib.hid (Bb.out.trans (hb.mono (Nat.le_of_lt hSb)))
                have hSc := Nat.lt_of_lt_of_le hSb hb.size
                clear hb C2 Rb Vb Bb hSb
                go_wp2_with fail
                refine C3.out.mono ?_
                rintro e Wd ⟨rfl, hqq⟩
                have Bd := Lib.hid (Bc.out.trans ((show Below Wc.heap.size Wc Wd by obtain ⟨nn, rfl⟩ := hqq; exact below_drewN Wc nn).mono (Nat.le_of_lt hSc)))
                clear hqq C3
                go_wp2_with fail
                go_ret
                exact ⟨by simp, Bd.out⟩
          by_cases g2 : d = 2
          · subst g2
            obtain ⟨⟨m1, e1⟩, hm1⟩ : ∃ x, unmapF m (a : Int) n = x := ⟨_, rfl⟩
            have HE := Lib.hid (unmapF_err m (a : Int) n)
            have C := Lib.hid (sunmap_any _ (S + 1) M F m O6.out (a : Int) n (by omega) (by have h : a < 18446744073709551616 := HF.out.a; omega) HF.out.n0 HF.out.n1)
            rw [hm1] at HE C
            
            dsimp only at C HE
            clear hm1
            go_wp2_with fail
            refine C.out.mono ?_
            rintro e W7 ⟨rfl, F2, h1, mv⟩
            have B7 := Lib.hid (B6.out.trans ((mv.belowN O6.out).mono (Nat.le_succ S)))
            have P7 := Lib.hid (P6.out.move mv)
            have T7 := Lib.hid (T6.out.move mv)
            have R7 := Lib.hid (R6.out.move mv)
            by_cases he : e1 = 0
            · subst he
              clear h1 mv C HE O6 P6 T6 R6 B6
              go_wp2_with fail
              go_ret
              exact ⟨by simp, B7.out⟩
            rw [HE.out he] at h1
            have O7 := Lib.hid h1
            have hS7 : S < W7.heap.size := by have := mv.kp.size; have := X6.out.lt; omega
            have hcd : (e1 == 0) = false := beq_eq_false_iff_ne.2 he
            clear h1 mv C HE O6 P6 T6 R6 B6 X6 y0 y1 y2 y3 y4 y5 y6 y7 y8 y9 y10
            have C := Lib.hid (spages_any W7 (S + 1) M F2 m O7.out)
            rw [HPL.out] at C
            go_wp2_with fail
            refine C.out.mono ?_
            rintro e W8 ⟨qa, qc, rfl, hor, hb⟩
            clear hcd he
            have Q8 := Lib.hid (RdX.new O7.out hor)
            have P8 := Lib.hid (P7.out.move (Moves.of_below F2 hb))
            have T8 := Lib.hid (T7.out.move (Moves.of_below F2 hb))
            have R8 := Lib.hid (R7.out.move (Moves.of_below F2 hb))
            have O8 := Lib.hid (O7.out.below hb)
            have B8 := Lib.hid (B7.out.trans (hb.mono (Nat.le_of_lt hS7)))
            have hS8 := Nat.lt_of_lt_of_le hS7 hb.size
            clear hor hb C P7 T7 R7 O7 B7 hS7
            have C := Lib.hid (HTAG.out W8 F2 O8.out)
            go_wp2_with fail
            refine C.out.mono ?_
            rintro e W9 ⟨ua, uc, rfl, hor, hb⟩
            have U9 := Lib.hid (RdX.new O8.out hor)
            have Q9 := Lib.hid (Q8.out.move (Moves.of_below F2 hb))
            have P9 := Lib.hid (P8.out.move (Moves.of_below F2 hb))
            have T9 := Lib.hid (T8.out.move (Moves.of_below F2 hb))
            have R9 := Lib.hid (R8.out.move (Moves.of_below F2 hb))
            have O9 := Lib.hid (O8.out.below hb)
            have B9 := Lib.hid (B8.out.trans (hb.mono (Nat.le_of_lt hS8)))
            have hS9 := Nat.lt_of_lt_of_le hS8 hb.size
            clear hor hb C P8 T8 R8 O8 B8 hS8 Q8 HTAG
            go_wp2_with fail
            have HZ : Hid (W9.ownsRow W9.heap.size 5 1 (.slice none 0 0) (256 * 0) (u8s (flatB m (m.pgs.take 0)))) := Lib.hid (by rw [List.take_zero]; exact World.ownsRow_nil _ _ _ _)
            go_loopw [17, 18] (fun bv i wr => ∃ k : Nat, i = .int .i64 k ∧ k ≤ q ∧ Hid (wr.ownsRow W9.heap.size 5 1 bv (256 * k) (u8s (flatB m (m.pgs.take k)))) ∧ Hid (Below W9.heap.size W9 wr)) (fun _ i _ => q - (intOf i).toNat)
            case atStart => exact ⟨0, rfl, by omega, HZ, Lib.hid (Below.refl _ _)⟩
            case round =>
              clear HZ
              obtain ⟨k, rfl, hk, HO, HBk⟩ := hrel
              obtain ⟨sa, sc, rfl, hrc⟩ := own_slice HO.out
              by_cases hlt : k < q
              · obtain ⟨b1, o1, ea, hb1, d0⟩ := (Q9.out.1.below HBk.out).at_ hlt
                have hkl : k < m.pgs.length := by rw [HPL.out]; exact hlt
                rw [u64s_get m.pgs k hkl] at d0
                have hsn := flatB_snoc m m.pgs k hkl
                have hpb := page_bytes (m := m) (List.getElem_mem hkl)
                have hp6 := O9.out.ok.pl _ (List.getElem_mem hkl)
                obtain ⟨p, hp⟩ : ∃ p, m.pgs[k] = p := ⟨_, rfl⟩
                rw [hp] at d0 hsn hpb hp6
                obtain ⟨pp, hpp⟩ : ∃ x, p * 256 = x := ⟨_, rfl⟩
                have w1 : IntKind.u64.wrap ((p : Int) * 256) = (pp : Int) := by rw [IntKind.wrap_u64]; omega
                rw [hpp] at hsn hpb
                have C := Lib.hid (sbytes_any wr (S + 1) M _ m (O9.out.below HBk.out) pp 256 (by omega) (by decide) (by decide))
                obtain ⟨Z, hZ⟩ : ∃ Z, bytesF m (pp : Int) 256 = Z := ⟨_, rfl⟩
                have hzl : Z.length = 256 := by rw [← hZ, hpb, manyB_len]
                rw [hZ, hzl] at C
                rw [hZ] at hsn
                have HSN := Lib.hid hsn
                obtain ⟨kk, hkk⟩ : ∃ x, 256 * k = x := ⟨_, rfl⟩
                rw [hkk] at HO
                have HK : Hid (256 * (k + 1) = kk + 256 ∧ kk ≤ 65536 ∧ k + 1 ≤ q) := Lib.hid (by have h1 := O9.out.ok.len; have h2 := O9.out.ok.bud; have h3 := HPL.out; omega)
                rw [hkk]
                have kk0 : (0 : Int) ≤ (k : Int) := by omega
                have kk1 : (k : Int) < (q : Int) := by omega
                subst ea
                clear hkl hsn hpb hp6 hp hpp hZ hzl hkk hb1 hk hlt
                go_wp2_with fail
                refine C.out.mono ?_
                rintro e Wn ⟨⟨xa, xc, rfl, hor⟩, hb⟩
                have HO2 := Lib.hid (own_kp2 HO.out (KP.of_below (fun _ => False) hb) (fun _ _ => id))
                have HR2 := Lib.hid (row_later hor (Below.refl _ _))
                have HB2 := Lib.hid (HBk.out.trans (hb.mono HBk.out.size))
                have hsz := HB2.out.size
                clear hor hb C HO HBk
                go_wp2_with (at_builtin; refine wpList_appE 51 5 (.int .u8 0) 1 1 Try.underlying51 infoU8m rfl (by decide) (by decide) _ rfl _ _ rfl W9.heap.size (.slice sa kk sc) kk (u8s (flatB m (m.pgs.take k))) rfl HO2.out xa 256 xc (u8s Z) rfl (by rw [Nat.mul_one]; exact HR2.out) (u8s_one _) (by have := HK.out; omega) hsz ?_; intro a3 c3 W3 hown3 hgrow3 hat3)
                have HO3 := Lib.hid (show W3.ownsRow W9.heap.size 5 1 (.slice a3 (kk + 256) c3) (256 * (k + 1)) (u8s (flatB m (m.pgs.take (k + 1)))) by rw [HSN.out, u8s_append, HK.out.1]; exact hown3)
                have HB3 := Lib.hid (grownB HB2.out hgrow3 (fun r e => (HO2.out.lt r e).1))
                clear hown3 hgrow3 hat3 HB2 HO2 HR2
                go_wp2_with fail
                go_roundw
                case rel => exact ⟨k + 1, by go_num, HK.out.2.2, HO3, HB3⟩
                case measure => have := HK.out; simp [intOf]; omega
              · obtain rfl : q = k := by omega
                have V9 := Lib.hid (RdX.new O9.out HO.out)
                rw [show m.pgs.take q = m.pgs by rw [← HPL.out]; exact List.take_length, HFB.out, HNB.out] at V9
                have Pa := Lib.hid (P9.out.1.below HBk.out)
                have Qa := Lib.hid (Q9.out.1.below HBk.out)
                have Ta := Lib.hid (T9.out.1.below HBk.out)
                have Ua := Lib.hid (U9.out.1.below HBk.out)
                have Ra := Lib.hid (R9.out.1.below HBk.out)
                have Ba := Lib.hid (B9.out.trans (HBk.out.mono (Nat.le_of_lt hS9)))
                have hSa := Nat.lt_of_lt_of_le hS9 HBk.out.size
                rw [HNB.out]
                clear HO HBk hlt hk O9 T9 P9 Q9 U9 R9 B9 hS9 hrc
                have C := Lib.hid (usame_any pa qa q pc q qc m.pgs m.pgs _ Pa.out Qa.out (by omega) (by omega))
                go_wp2_with fail
                refine C.out.mono ?_
                rintro e Wb ⟨rfl, hb⟩
                have C2 := Lib.hid (usame_any ta ua t tc t uc T T Wb (Ta.out.below hb) (Ua.out.below hb) (by omega) (by omega))
                have Rb := Lib.hid (Ra.out.below hb)
                have Vb := Lib.hid (V9.out.1.below hb)
                have Bb := Lib.hid (Ba.out.trans (hb.mono (Nat.le_of_lt hSa)))
                have hSb := Nat.lt_of_lt_of_le hSa hb.size
                clear hb C Pa Qa Ta Ua Ra V9 Ba hSa
                go_wp2_with fail
                refine C2.out.mono ?_
                rintro e Wc ⟨rfl, hb⟩
                have C3 := Lib.hid (same_any ra sa nb rc nb sc FB FB Wc (Rb.out.below hb) (Vb.out.below hb) (by omega) (by omega))
                have Bc := Lib.hid (Bb.out.trans (hb.mono (Nat.le_of_lt hSb)))
                have hSc := Nat.lt_of_lt_of_le hSb hb.size
                clear hb C2 Rb Vb Bb hSb
                go_wp2_with fail
                refine C3.out.mono ?_
                rintro e Wd ⟨rfl, hqq⟩
                have Bd := Lib.hid (Bc.out.trans ((show Below Wc.heap.size Wc Wd by obtain ⟨nn, rfl⟩ := hqq; exact below_drewN Wc nn).mono (Nat.le_of_lt hSc)))
                clear hqq C3
                go_wp2_with fail
                go_ret
                exact ⟨by simp, Bd.out⟩
          by_cases g3 : d = 3
          · subst g3
            obtain ⟨⟨m1, e1⟩, hm1⟩ : ∃ x, storeF m (a : Int) n w = x := ⟨_, rfl⟩
            have HE := Lib.hid (storeF_err m (a : Int) n w)
            have C := Lib.hid (sstore_any _ (S + 1) M F m O6.out a n w HF.out.a HF.out.w0 HF.out.w1)
            rw [hm1] at HE C
            
            dsimp only at C HE
            clear hm1
            go_wp2_with fail
            refine C.out.mono ?_
            rintro e W7 ⟨rfl, F2, h1, mv⟩
            have B7 := Lib.hid (B6.out.trans ((mv.belowN O6.out).mono (Nat.le_succ S)))
            have P7 := Lib.hid (P6.out.move mv)
            have T7 := Lib.hid (T6.out.move mv)
            have R7 := Lib.hid (R6.out.move mv)
            by_cases he : e1 = 0
            · subst he
              clear h1 mv C HE O6 P6 T6 R6 B6
              go_wp2_with fail
              go_ret
              exact ⟨by simp, B7.out⟩
            rw [HE.out he] at h1
            have O7 := Lib.hid h1
            have hS7 : S < W7.heap.size := by have := mv.kp.size; have := X6.out.lt; omega
            have hcd : (e1 == 0) = false := beq_eq_false_iff_ne.2 he
            clear h1 mv C HE O6 P6 T6 R6 B6 X6 y0 y1 y2 y3 y4 y5 y6 y7 y8 y9 y10
            have C := Lib.hid (spages_any W7 (S + 1) M F2 m O7.out)
            rw [HPL.out] at C
            go_wp2_with fail
            refine C.out.mono ?_
            rintro e W8 ⟨qa, qc, rfl, hor, hb⟩
            clear hcd he
            have Q8 := Lib.hid (RdX.new O7.out hor)
            have P8 := Lib.hid (P7.out.move (Moves.of_below F2 hb))
            have T8 := Lib.hid (T7.out.move (Moves.of_below F2 hb))
            have R8 := Lib.hid (R7.out.move (Moves.of_below F2 hb))
            have O8 := Lib.hid (O7.out.below hb)
            have B8 := Lib.hid (B7.out.trans (hb.mono (Nat.le_of_lt hS7)))
            have hS8 := Nat.lt_of_lt_of_le hS7 hb.size
            clear hor hb C P7 T7 R7 O7 B7 hS7
            have C := Lib.hid (HTAG.out W8 F2 O8.out)
            go_wp2_with fail
            refine C.out.mono ?_
            rintro e W9 ⟨ua, uc, rfl, hor, hb⟩
            have U9 := Lib.hid (RdX.new O8.out hor)
            have Q9 := Lib.hid (Q8.out.move (Moves.of_below F2 hb))
            have P9 := Lib.hid (P8.out.move (Moves.of_below F2 hb))
            have T9 := Lib.hid (T8.out.move (Moves.of_below F2 hb))
            have R9 := Lib.hid (R8.out.move (Moves.of_below F2 hb))
            have O9 := Lib.hid (O8.out.below hb)
            have B9 := Lib.hid (B8.out.trans (hb.mono (Nat.le_of_lt hS8)))
            have hS9 := Nat.lt_of_lt_of_le hS8 hb.size
            clear hor hb C P8 T8 R8 O8 B8 hS8 Q8 HTAG
            go_wp2_with fail
            have HZ : Hid (W9.ownsRow W9.heap.size 5 1 (.slice none 0 0) (256 * 0) (u8s (flatB m (m.pgs.take 0)))) := Lib.hid (by rw [List.take_zero]; exact World.ownsRow_nil _ _ _ _)
            go_loopw [17, 18] (fun bv i wr => ∃ k : Nat, i = .int .i64 k ∧ k ≤ q ∧ Hid (wr.ownsRow W9.heap.size 5 1 bv (256 * k) (u8s (flatB m (m.pgs.take k)))) ∧ Hid (Below W9.heap.size W9 wr)) (fun _ i _ => q - (intOf i).toNat)
            case atStart => exact ⟨0, rfl, by omega, HZ, Lib.hid (Below.refl _ _)⟩
            case round =>
              clear HZ
              obtain ⟨k, rfl, hk, HO, HBk⟩ := hrel
              obtain ⟨sa, sc, rfl, hrc⟩ := own_slice HO.out
              by_cases hlt : k < q
              · obtain ⟨b1, o1, ea, hb1, d0⟩ := (Q9.out.1.below HBk.out).at_ hlt
                have hkl : k < m.pgs.length := by rw [HPL.out]; exact hlt
                rw [u64s_get m.pgs k hkl] at d0
                have hsn := flatB_snoc m m.pgs k hkl
                have hpb := page_bytes (m := m) (List.getElem_mem hkl)
                have hp6 := O9.out.ok.pl _ (List.getElem_mem hkl)
                obtain ⟨p, hp⟩ : ∃ p, m.pgs[k] = p := ⟨_, rfl⟩
                rw [hp] at d0 hsn hpb hp6
                obtain ⟨pp, hpp⟩ : ∃ x, p * 256 = x := ⟨_, rfl⟩
                have w1 : IntKind.u64.wrap ((p : Int) * 256) = (pp : Int) := by rw [IntKind.wrap_u64]; omega
                rw [hpp] at hsn hpb
                have C := Lib.hid (sbytes_any wr (S + 1) M _ m (O9.out.below HBk.out) pp 256 (by omega) (by decide) (by decide))
                obtain ⟨Z, hZ⟩ : ∃ Z, bytesF m (pp : Int) 256 = Z := ⟨_, rfl⟩
                have hzl : Z.length = 256 := by rw [← hZ, hpb, manyB_len]
                rw [hZ, hzl] at C
                rw [hZ] at hsn
                have HSN := Lib.hid hsn
                obtain ⟨kk, hkk⟩ : ∃ x, 256 * k = x := ⟨_, rfl⟩
                rw [hkk] at HO
                have HK : Hid (256 * (k + 1) = kk + 256 ∧ kk ≤ 65536 ∧ k + 1 ≤ q) := Lib.hid (by have h1 := O9.out.ok.len; have h2 := O9.out.ok.bud; have h3 := HPL.out; omega)
                rw [hkk]
                have kk0 : (0 : Int) ≤ (k : Int) := by omega
                have kk1 : (k : Int) < (q : Int) := by omega
                subst ea
                clear hkl hsn hpb hp6 hp hpp hZ hzl hkk hb1 hk hlt
                go_wp2_with fail
                refine C.out.mono ?_
                rintro e Wn ⟨⟨xa, xc, rfl, hor⟩, hb⟩
                have HO2 := Lib.hid (own_kp2 HO.out (KP.of_below (fun _ => False) hb) (fun _ _ => id))
                have HR2 := Lib.hid (row_later hor (Below.refl _ _))
                have HB2 := Lib.hid (HBk.out.trans (hb.mono HBk.out.size))
                have hsz := HB2.out.size
                clear hor hb C HO HBk
                go_wp2_with (at_builtin; refine wpList_appE 51 5 (.int .u8 0) 1 1 Try.underlying51 infoU8m rfl (by decide) (by decide) _ rfl _ _ rfl W9.heap.size (.slice sa kk sc) kk (u8s (flatB m (m.pgs.take k))) rfl HO2.out xa 256 xc (u8s Z) rfl (by rw [Nat.mul_one]; exact HR2.out) (u8s_one _) (by have := HK.out; omega) hsz ?_; intro a3 c3 W3 hown3 hgrow3 hat3)
                have HO3 := Lib.hid (show W3.ownsRow W9.heap.size 5 1 (.slice a3 (kk + 256) c3) (256 * (k + 1)) (u8s (flatB m (m.pgs.take (k + 1)))) by rw [HSN.out, u8s_append, HK.out.1]; exact hown3)
                have HB3 := Lib.hid (grownB HB2.out hgrow3 (fun r e => (HO2.out.lt r e).1))
                clear hown3 hgrow3 hat3 HB2 HO2 HR2
                go_wp2_with fail
                go_roundw
                case rel => exact ⟨k + 1, by go_num, HK.out.2.2, HO3, HB3⟩
                case measure => have := HK.out; simp [intOf]; omega
              · obtain rfl : q = k := by omega
                have V9 := Lib.hid (RdX.new O9.out HO.out)
                rw [show m.pgs.take q = m.pgs by rw [← HPL.out]; exact List.take_length, HFB.out, HNB.out] at V9
                have Pa := Lib.hid (P9.out.1.below HBk.out)
                have Qa := Lib.hid (Q9.out.1.below HBk.out)
                have Ta := Lib.hid (T9.out.1.below HBk.out)
                have Ua := Lib.hid (U9.out.1.below HBk.out)
                have Ra := Lib.hid (R9.out.1.below HBk.out)
                have Ba := Lib.hid (B9.out.trans (HBk.out.mono (Nat.le_of_lt hS9)))
                have hSa := Nat.lt_of_lt_of_le hS9 HBk.out.size
                rw [HNB.out]
                clear HO HBk hlt hk O9 T9 P9 Q9 U9 R9 B9 hS9 hrc
                have C := Lib.hid (usame_any pa qa q pc q qc m.pgs m.pgs _ Pa.out Qa.out (by omega) (by omega))
                go_wp2_with fail
                refine C.out.mono ?_
                rintro e Wb ⟨rfl, hb⟩
                have C2 := Lib.hid (usame_any ta ua t tc t uc T T Wb (Ta.out.below hb) (Ua.out.below hb) (by omega) (by omega))
                have Rb := Lib.hid (Ra.out.below hb)
                have Vb := Lib.hid (V9.out.1.below hb)
                have Bb := Lib.hid (Ba.out.trans (hb.mono (Nat.le_of_lt hSa)))
                have hSb := Nat.lt_of_lt_of_le hSa hb.size
                clear hb C Pa Qa Ta Ua Ra V9 Ba hSa
                go_wp2_with fail
                refine C2.out.mono ?_
                rintro e Wc ⟨rfl, hb⟩
                have C3 := Lib.hid (same_any ra sa nb rc nb sc FB FB Wc (Rb.out.below hb) (Vb.out.below hb) (by omega) (by omega))
                have Bc := Lib.hid (Bb.out.trans (hb.mono (Nat.le_of_lt hSb)))
                have hSc := Nat.lt_of_lt_of_le hSb hb.size
                clear hb C2 Rb Vb Bb hSb
                go_wp2_with fail
                refine C3.out.mono ?_
                rintro e Wd ⟨rfl, hqq⟩
                have Bd := Lib.hid (Bc.out.trans ((show Below Wc.heap.size Wc Wd by obtain ⟨nn, rfl⟩ := hqq; exact below_drewN Wc nn).mono (Nat.le_of_lt hSc)))
                clear hqq C3
                go_wp2_with fail
                go_ret
                exact ⟨by simp, Bd.out⟩
          by_cases g4 : d = 4
          · subst g4
            obtain ⟨⟨m1, e1⟩, hm1⟩ : ∃ x, storeC m (a : Int) c = x := ⟨_, rfl⟩
            have HE := Lib.hid (storeC_err m (a : Int) c)
            have C := Lib.hid (sstoreC_any _ (S + 1) M F m O6.out a c HF.out.a HF.out.c)
            rw [hm1] at HE C
            rw [HCC.out] at C
            dsimp only at C HE
            clear hm1
            go_wp2_with fail
            refine C.out.mono ?_
            rintro e W7 ⟨rfl, F2, h1, mv⟩
            have B7 := Lib.hid (B6.out.trans ((mv.belowN O6.out).mono (Nat.le_succ S)))
            have P7 := Lib.hid (P6.out.move mv)
            have T7 := Lib.hid (T6.out.move mv)
            have R7 := Lib.hid (R6.out.move mv)
            by_cases he : e1 = 0
            · subst he
              clear h1 mv C HE O6 P6 T6 R6 B6
              go_wp2_with fail
              go_ret
              exact ⟨by simp, B7.out⟩
            rw [HE.out he] at h1
            have O7 := Lib.hid h1
            have hS7 : S < W7.heap.size := by have := mv.kp.size; have := X6.out.lt; omega
            have hcd : (e1 == 0) = false := beq_eq_false_iff_ne.2 he
            clear h1 mv C HE O6 P6 T6 R6 B6 X6 y0 y1 y2 y3 y4 y5 y6 y7 y8 y9 y10
            have C := Lib.hid (spages_any W7 (S + 1) M F2 m O7.out)
            rw [HPL.out] at C
            go_wp2_with fail
            refine C.out.mono ?_
            rintro e W8 ⟨qa, qc, rfl, hor, hb⟩
            clear hcd he
            have Q8 := Lib.hid (RdX.new O7.out hor)
            have P8 := Lib.hid (P7.out.move (Moves.of_below F2 hb))
            have T8 := Lib.hid (T7.out.move (Moves.of_below F2 hb))
            have R8 := Lib.hid (R7.out.move (Moves.of_below F2 hb))
            have O8 := Lib.hid (O7.out.below hb)
            have B8 := Lib.hid (B7.out.trans (hb.mono (Nat.le_of_lt hS7)))
            have hS8 := Nat.lt_of_lt_of_le hS7 hb.size
            clear hor hb C P7 T7 R7 O7 B7 hS7
            have C := Lib.hid (HTAG.out W8 F2 O8.out)
            go_wp2_with fail
            refine C.out.mono ?_
            rintro e W9 ⟨ua, uc, rfl, hor, hb⟩
            have U9 := Lib.hid (RdX.new O8.out hor)
            have Q9 := Lib.hid (Q8.out.move (Moves.of_below F2 hb))
            have P9 := Lib.hid (P8.out.move (Moves.of_below F2 hb))
            have T9 := Lib.hid (T8.out.move (Moves.of_below F2 hb))
            have R9 := Lib.hid (R8.out.move (Moves.of_below F2 hb))
            have O9 := Lib.hid (O8.out.below hb)
            have B9 := Lib.hid (B8.out.trans (hb.mono (Nat.le_of_lt hS8)))
            have hS9 := Nat.lt_of_lt_of_le hS8 hb.size
            clear hor hb C P8 T8 R8 O8 B8 hS8 Q8 HTAG
            go_wp2_with fail
            have HZ : Hid (W9.ownsRow W9.heap.size 5 1 (.slice none 0 0) (256 * 0) (u8s (flatB m (m.pgs.take 0)))) := Lib.hid (by rw [List.take_zero]; exact World.ownsRow_nil _ _ _ _)
            go_loopw [17, 18] (fun bv i wr => ∃ k : Nat, i = .int .i64 k ∧ k ≤ q ∧ Hid (wr.ownsRow W9.heap.size 5 1 bv (256 * k) (u8s (flatB m (m.pgs.take k)))) ∧ Hid (Below W9.heap.size W9 wr)) (fun _ i _ => q - (intOf i).toNat)
            case atStart => exact ⟨0, rfl, by omega, HZ, Lib.hid (Below.refl _ _)⟩
            case round =>
              clear HZ
              obtain ⟨k, rfl, hk, HO, HBk⟩ := hrel
              obtain ⟨sa, sc, rfl, hrc⟩ := own_slice HO.out
              by_cases hlt : k < q
              · obtain ⟨b1, o1, ea, hb1, d0⟩ := (Q9.out.1.below HBk.out).at_ hlt
                have hkl : k < m.pgs.length := by rw [HPL.out]; exact hlt
                rw [u64s_get m.pgs k hkl] at d0
                have hsn := flatB_snoc m m.pgs k hkl
                have hpb := page_bytes (m := m) (List.getElem_mem hkl)
                have hp6 := O9.out.ok.pl _ (List.getElem_mem hkl)
                obtain ⟨p, hp⟩ : ∃ p, m.pgs[k] = p := ⟨_, rfl⟩
                rw [hp] at d0 hsn hpb hp6
                obtain ⟨pp, hpp⟩ : ∃ x, p * 256 = x := ⟨_, rfl⟩
                have w1 : IntKind.u64.wrap ((p : Int) * 256) = (pp : Int) := by rw [IntKind.wrap_u64]; omega
                rw [hpp] at hsn hpb
                have C := Lib.hid (sbytes_any wr (S + 1) M _ m (O9.out.below HBk.out) pp 256 (by omega) (by decide) (by decide))
                obtain ⟨Z, hZ⟩ : ∃ Z, bytesF m (pp : Int) 256 = Z := ⟨_, rfl⟩
                have hzl : Z.length = 256 := by rw [← hZ, hpb, manyB_len]
                rw [hZ, hzl] at C
                rw [hZ] at hsn
                have HSN := Lib.hid hsn
                obtain ⟨kk, hkk⟩ : ∃ x, 256 * k = x := ⟨_, rfl⟩
                rw [hkk] at HO
                have HK : Hid (256 * (k + 1) = kk + 256 ∧ kk ≤ 65536 ∧ k + 1 ≤ q) := Lib.hid (by have h1 := O9.out.ok.len; have h2 := O9.out.ok.bud; have h3 := HPL.out; omega)
                rw [hkk]
                have kk0 : (0 : Int) ≤ (k : Int) := by omega
                have kk1 : (k : Int) < (q : Int) := by omega
                subst ea
                clear hkl hsn hpb hp6 hp hpp hZ hzl hkk hb1 hk hlt
                go_wp2_with fail
                refine C.out.mono ?_
                rintro e Wn ⟨⟨xa, xc, rfl, hor⟩, hb⟩
                have HO2 := Lib.hid (own_kp2 HO.out (KP.of_below (fun _ => False) hb) (fun _ _ => id))
                have HR2 := Lib.hid (row_later hor (Below.refl _ _))
                have HB2 := Lib.hid (HBk.out.trans (hb.mono HBk.out.size))
                have hsz := HB2.out.size
                clear hor hb C HO HBk
                go_wp2_with (at_builtin; refine wpList_appE 51 5 (.int .u8 0) 1 1 Try.underlying51 infoU8m rfl (by decide) (by decide) _ rfl _ _ rfl W9.heap.size (.slice sa kk sc) kk (u8s (flatB m (m.pgs.take k))) rfl HO2.out xa 256 xc (u8s Z) rfl (by rw [Nat.mul_one]; exact HR2.out) (u8s_one _) (by have := HK.out; omega) hsz ?_; intro a3 c3 W3 hown3 hgrow3 hat3)
                have HO3 := Lib.hid (show W3.ownsRow W9.heap.size 5 1 (.slice a3 (kk + 256) c3) (256 * (k + 1)) (u8s (flatB m (m.pgs.take (k + 1)))) by rw [HSN.out, u8s_append, HK.out.1]; exact hown3)
                have HB3 := Lib.hid (grownB HB2.out hgrow3 (fun r e => (HO2.out.lt r e).1))
                clear hown3 hgrow3 hat3 HB2 HO2 HR2
                go_wp2_with fail
                go_roundw
                case rel => exact ⟨k + 1, by go_num, HK.out.2.2, HO3, HB3⟩
                case measure => have := HK.out; simp [intOf]; omega
              · obtain rfl : q = k := by omega
                have V9 := Lib.hid (RdX.new O9.out HO.out)
                rw [show m.pgs.take q = m.pgs by rw [← HPL.out]; exact List.take_length, HFB.out, HNB.out] at V9
                have Pa := Lib.hid (P9.out.1.below HBk.out)
                have Qa := Lib.hid (Q9.out.1.below HBk.out)
                have Ta := Lib.hid (T9.out.1.below HBk.out)
                have Ua := Lib.hid (U9.out.1.below HBk.out)
                have Ra := Lib.hid (R9.out.1.below HBk.out)
                have Ba := Lib.hid (B9.out.trans (HBk.out.mono (Nat.le_of_lt hS9)))
                have hSa := Nat.lt_of_lt_of_le hS9 HBk.out.size
                rw [HNB.out]
                clear HO HBk hlt hk O9 T9 P9 Q9 U9 R9 B9 hS9 hrc
                have C := Lib.hid (usame_any pa qa q pc q qc m.pgs m.pgs _ Pa.out Qa.out (by omega) (by omega))
                go_wp2_with fail
                refine C.out.mono ?_
                rintro e Wb ⟨rfl, hb⟩
                have C2 := Lib.hid (usame_any ta ua t tc t uc T T Wb (Ta.out.below hb) (Ua.out.below hb) (by omega) (by omega))
                have Rb := Lib.hid (Ra.out.below hb)
                have Vb := Lib.hid (V9.out.1.below hb)
                have Bb := Lib.hid (Ba.out.trans (hb.mono (Nat.le_of_lt hSa)))
                have hSb := Nat.lt_of_lt_of_le hSa hb.size
                clear hb C Pa Qa Ta Ua Ra V9 Ba hSa
                go_wp2_with fail
                refine C2.out.mono ?_
                rintro e Wc ⟨rfl, hb⟩
                have C3 := Lib.hid (same_any ra sa nb rc nb sc FB FB Wc (Rb.out.below hb) (Vb.out.below hb) (by omega) (by omega))
                have Bc := Lib.hid (Bb.out.trans (hb.mono (Nat.le_of_lt hSb)))
                have hSc := Nat.lt_of_lt_of_le hSb hb.size
                clear hb C2 Rb Vb Bb hSb
                go_wp2_with fail
                refine C3.out.mono ?_
                rintro e Wd ⟨rfl, hqq⟩
                have Bd := Lib.hid (Bc.out.trans ((show Below Wc.heap.size Wc Wd by obtain ⟨nn, rfl⟩ := hqq; exact below_drewN Wc nn).mono (Nat.le_of_lt hSc)))
                clear hqq C3
                go_wp2_with fail
                go_ret
                exact ⟨by simp, Bd.out⟩
          by_cases g5 : d = 5
          · subst g5
            obtain ⟨⟨m1, e1⟩, hm1⟩ : ∃ x, putF m (a : Int) ol = x := ⟨_, rfl⟩
            have HE := Lib.hid (putF_err m (a : Int) ol)
            have C := Lib.hid (sput_any _ (S + 1) M F m O6.out a on bc ba ol HF.out.a HON.out (by have := HF.out.ll; rw [← HON.out]; exact this) (by have := HF.out.lm; rw [← HON.out]; exact this) HF.out.lb (by have h := (HF.out.below (B6.out)).rd; rw [← HON.out]; exact h) (by rw [← HON.out]; intro h0 g off e hf2; have h1 := HF.out.bn h0 g off e; have h2 := O6.out.ge g hf2; omega))
            rw [hm1] at HE C
            
            dsimp only at C HE
            clear hm1
            go_wp2_with fail
            refine C.out.mono ?_
            rintro e W7 ⟨rfl, F2, h1, mv⟩
            have B7 := Lib.hid (B6.out.trans ((mv.belowN O6.out).mono (Nat.le_succ S)))
            have P7 := Lib.hid (P6.out.move mv)
            have T7 := Lib.hid (T6.out.move mv)
            have R7 := Lib.hid (R6.out.move mv)
            by_cases he : e1 = 0
            · subst he
              clear h1 mv C HE O6 P6 T6 R6 B6
              go_wp2_with fail
              go_ret
              exact ⟨by simp, B7.out⟩
            rw [HE.out he] at h1
            have O7 := Lib.hid h1
            have hS7 : S < W7.heap.size := by have := mv.kp.size; have := X6.out.lt; omega
            have hcd : (e1 == 0) = false := beq_eq_false_iff_ne.2 he
            clear h1 mv C HE O6 P6 T6 R6 B6 X6 y0 y1 y2 y3 y4 y5 y6 y7 y8 y9 y10
            have C := Lib.hid (spages_any W7 (S + 1) M F2 m O7.out)
            rw [HPL.out] at C
            go_wp2_with fail
            refine C.out.mono ?_
            rintro e W8 ⟨qa, qc, rfl, hor, hb⟩
            clear hcd he
            have Q8 := Lib.hid (RdX.new O7.out hor)
            have P8 := Lib.hid (P7.out.move (Moves.of_below F2 hb))
            have T8 := Lib.hid (T7.out.move (Moves.of_below F2 hb))
            have R8 := Lib.hid (R7.out.move (Moves.of_below F2 hb))
            have O8 := Lib.hid (O7.out.below hb)
            have B8 := Lib.hid (B7.out.trans (hb.mono (Nat.le_of_lt hS7)))
            have hS8 := Nat.lt_of_lt_of_le hS7 hb.size
            clear hor hb C P7 T7 R7 O7 B7 hS7
            have C := Lib.hid (HTAG.out W8 F2 O8.out)
            go_wp2_with fail
            refine C.out.mono ?_
            rintro e W9 ⟨ua, uc, rfl, hor, hb⟩
            have U9 := Lib.hid (RdX.new O8.out hor)
            have Q9 := Lib.hid (Q8.out.move (Moves.of_below F2 hb))
            have P9 := Lib.hid (P8.out.move (Moves.of_below F2 hb))
            have T9 := Lib.hid (T8.out.move (Moves.of_below F2 hb))
            have R9 := Lib.hid (R8.out.move (Moves.of_below F2 hb))
            have O9 := Lib.hid (O8.out.below hb)
            have B9 := Lib.hid (B8.out.trans (hb.mono (Nat.le_of_lt hS8)))
            have hS9 := Nat.lt_of_lt_of_le hS8 hb.size
            clear hor hb C P8 T8 R8 O8 B8 hS8 Q8 HTAG
            go_wp2_with fail
            have HZ : Hid (W9.ownsRow W9.heap.size 5 1 (.slice none 0 0) (256 * 0) (u8s (flatB m (m.pgs.take 0)))) := Lib.hid (by rw [List.take_zero]; exact World.ownsRow_nil _ _ _ _)
            go_loopw [17, 18] (fun bv i wr => ∃ k : Nat, i = .int .i64 k ∧ k ≤ q ∧ Hid (wr.ownsRow W9.heap.size 5 1 bv (256 * k) (u8s (flatB m (m.pgs.take k)))) ∧ Hid (Below W9.heap.size W9 wr)) (fun _ i _ => q - (intOf i).toNat)
            case atStart => exact ⟨0, rfl, by omega, HZ, Lib.hid (Below.refl _ _)⟩
            case round =>
              clear HZ
              obtain ⟨k, rfl, hk, HO, HBk⟩ := hrel
              obtain ⟨sa, sc, rfl, hrc⟩ := own_slice HO.out
              by_cases hlt : k < q
              · obtain ⟨b1, o1, ea, hb1, d0⟩ := (Q9.out.1.below HBk.out).at_ hlt
                have hkl : k < m.pgs.length := by rw [HPL.out]; exact hlt
                rw [u64s_get m.pgs k hkl] at d0
                have hsn := flatB_snoc m m.pgs k hkl
                have hpb := page_bytes (m := m) (List.getElem_mem hkl)
                have hp6 := O9.out.ok.pl _ (List.getElem_mem hkl)
                obtain ⟨p, hp⟩ : ∃ p, m.pgs[k] = p := ⟨_, rfl⟩
                rw [hp] at d0 hsn hpb hp6
                obtain ⟨pp, hpp⟩ : ∃ x, p * 256 = x := ⟨_, rfl⟩
                have w1 : IntKind.u64.wrap ((p : Int) * 256) = (pp : Int) := by rw [IntKind.wrap_u64]; omega
                rw [hpp] at hsn hpb
                have C := Lib.hid (sbytes_any wr (S + 1) M _ m (O9.out.below HBk.out) pp 256 (by omega) (by decide) (by decide))
                obtain ⟨Z, hZ⟩ : ∃ Z, bytesF m (pp : Int) 256 = Z := ⟨_, rfl⟩
                have hzl : Z.length = 256 := by rw [← hZ, hpb, manyB_len]
                rw [hZ, hzl] at C
                rw [hZ] at hsn
                have HSN := Lib.hid hsn
                obtain ⟨kk, hkk⟩ : ∃ x, 256 * k = x := ⟨_, rfl⟩
                rw [hkk] at HO
                have HK : Hid (256 * (k + 1) = kk + 256 ∧ kk ≤ 65536 ∧ k + 1 ≤ q) := Lib.hid (by have h1 := O9.out.ok.len; have h2 := O9.out.ok.bud; have h3 := HPL.out; omega)
                rw [hkk]
                have kk0 : (0 : Int) ≤ (k : Int) := by omega
                have kk1 : (k : Int) < (q : Int) := by omega
                subst ea
                clear hkl hsn hpb hp6 hp hpp hZ hzl hkk hb1 hk hlt
                go_wp2_with fail
                refine C.out.mono ?_
                rintro e Wn ⟨⟨xa, xc, rfl, hor⟩, hb⟩
                have HO2 := Lib.hid (own_kp2 HO.out (KP.of_below (fun _ => False) hb) (fun _ _ => id))
                have HR2 := Lib.hid (row_later hor (Below.refl _ _))
                have HB2 := Lib.hid (HBk.out.trans (hb.mono HBk.out.size))
                have hsz := HB2.out.size
                clear hor hb C HO HBk
                go_wp2_with (at_builtin; refine wpList_appE 51 5 (.int .u8 0) 1 1 Try.underlying51 infoU8m rfl (by decide) (by decide) _ rfl _ _ rfl W9.heap.size (.slice sa kk sc) kk (u8s (flatB m (m.pgs.take k))) rfl HO2.out xa 256 xc (u8s Z) rfl (by rw [Nat.mul_one]; exact HR2.out) (u8s_one _) (by have := HK.out; omega) hsz ?_; intro a3 c3 W3 hown3 hgrow3 hat3)
                have HO3 := Lib.hid (show W3.ownsRow W9.heap.size 5 1 (.slice a3 (kk + 256) c3) (256 * (k + 1)) (u8s (flatB m (m.pgs.take (k + 1)))) by rw [HSN.out, u8s_append, HK.out.1]; exact hown3)
                have HB3 := Lib.hid (grownB HB2.out hgrow3 (fun r e => (HO2.out.lt r e).1))
                clear hown3 hgrow3 hat3 HB2 HO2 HR2
                go_wp2_with fail
                go_roundw
                case rel => exact ⟨k + 1, by go_num, HK.out.2.2, HO3, HB3⟩
                case measure => have := HK.out; simp [intOf]; omega
              · obtain rfl : q = k := by omega
                have V9 := Lib.hid (RdX.new O9.out HO.out)
                rw [show m.pgs.take q = m.pgs by rw [← HPL.out]; exact List.take_length, HFB.out, HNB.out] at V9
                have Pa := Lib.hid (P9.out.1.below HBk.out)
                have Qa := Lib.hid (Q9.out.1.below HBk.out)
                have Ta := Lib.hid (T9.out.1.below HBk.out)
                have Ua := Lib.hid (U9.out.1.below HBk.out)
                have Ra := Lib.hid (R9.out.1.below HBk.out)
                have Ba := Lib.hid (B9.out.trans (HBk.out.mono (Nat.le_of_lt hS9)))
                have hSa := Nat.lt_of_lt_of_le hS9 HBk.out.size
                rw [HNB.out]
                clear HO HBk hlt hk O9 T9 P9 Q9 U9 R9 B9 hS9 hrc
                have C := Lib.hid (usame_any pa qa q pc q qc m.pgs m.pgs _ Pa.out Qa.out (by omega) (by omega))
                go_wp2_with fail
                refine C.out.mono ?_
                rintro e Wb ⟨rfl, hb⟩
                have C2 := Lib.hid (usame_any ta ua t tc t uc T T Wb (Ta.out.below hb) (Ua.out.below hb) (by omega) (by omega))
                have Rb := Lib.hid (Ra.out.below hb)
                have Vb := Lib.hid (V9.out.1.below hb)
                have Bb := Lib.hid (Ba.out.trans (hb.mono (Nat.le_of_lt hSa)))
                have hSb := Nat.lt_of_lt_of_le hSa hb.size
                clear hb C Pa Qa Ta Ua Ra V9 Ba hSa
                go_wp2_with fail
                refine C2.out.mono ?_
                rintro e Wc ⟨rfl, hb⟩
                have C3 := Lib.hid (same_any ra sa nb rc nb sc FB FB Wc (Rb.out.below hb) (Vb.out.below hb) (by omega) (by omega))
                have Bc := Lib.hid (Bb.out.trans (hb.mono (Nat.le_of_lt hSb)))
                have hSc := Nat.lt_of_lt_of_le hSb hb.size
                clear hb C2 Rb Vb Bb hSb
                go_wp2_with fail
                refine C3.out.mono ?_
                rintro e Wd ⟨rfl, hqq⟩
                have Bd := Lib.hid (Bc.out.trans ((show Below Wc.heap.size Wc Wd by obtain ⟨nn, rfl⟩ := hqq; exact below_drewN Wc nn).mono (Nat.le_of_lt hSc)))
                clear hqq C3
                go_wp2_with fail
                go_ret
                exact ⟨by simp, Bd.out⟩
          have f1 : (d == 1) = false := beq_eq_false_iff_ne.2 g1
          have f2 : (d == 2) = false := beq_eq_false_iff_ne.2 g2
          have f3 : (d == 3) = false := beq_eq_false_iff_ne.2 g3
          have f4 : (d == 4) = false := beq_eq_false_iff_ne.2 g4
          have f5 : (d == 5) = false := beq_eq_false_iff_ne.2 g5
          go_wp2_with fail
          go_ret
          exact ⟨by simp, B6.out⟩
theorem TagmemSpared_walk (W : World) (b : Int) (la : Option Addr) (lc : Nat) (l : List Opr) (hl : RdP W W.heap.size la l) (o : Opr) (hf : FitO W W.heap.size o) :
    Calls Try.prog 5 #[.int .i64 b, .slice la l.length lc, .agg (opC o)] W fun e W' => e = .returned (.bool true) ∧ Below W.heap.size W W' := by
  obtain ⟨d, a, n, w, ⟨cb, ct, ca, cp, cy, cg⟩, ol, ba, bc⟩ := o
  exact spared_walk W W.heap.size rfl b la lc l hl d a n w cb ct ca cp cy cg ol ba bc hf
end Go.Proofs.Ytgfkjlknkbdjiaa
