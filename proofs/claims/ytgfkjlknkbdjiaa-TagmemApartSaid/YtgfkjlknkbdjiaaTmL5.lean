/- A number touches its bytes and its granule's tag alone: contract. -/
import Derived.Test.YtgfkjlknkbdjiaaTmL6
import Derived.Test.YtgfkjlknkbdjiaaTmLs
import Derived.BigQuiet
namespace Go.Proofs.Ytgfkjlknkbdjiaa
set_option linter.unusedVariables false
set_option linter.unusedSimpArgs false
open Go.Joins Go.ChangeShapes Go.WideShapes Go.ChangeAt Go.RowKit Go.Deep

theorem apart_all {m m1 : Mm} {a : Nat} {n w : Int} (h : storeF m (a : Int) n w = (m1, 0)) :
    1 ≤ n ∧ n ≤ 8 ∧ m1.pgs = m.pgs ∧ (∀ x : Nat, (a ≤ x ∧ (x : Int) < a + n) ∨ m1.by_ x = m.by_ x) ∧ m1.mks.map (32 * ·) = (m.mks.map (32 * ·)).filter (fun t => t != a - a % 32) := by
  unfold storeF at h
  split at h
  · rename_i hn
    obtain ⟨rfl, -⟩ := Prod.mk.inj h
    unfold numE at hn
    split at hn
    · cases hn
    rename_i hnn
    split at hn
    · cases hn
    rename_i hal
    obtain ⟨k, rfl⟩ : ∃ k : Nat, n = k := ⟨n.toNat, by omega⟩
    have hk : k = 1 ∨ k = 2 ∨ k = 4 ∨ k = 8 := by omega
    have hal2 : a % k = 0 := by omega
    have hlen : (littleN w.toNat k).length = k := littleN_length _ _
    rw [Int.toNat_natCast, Int.toNat_natCast]
    refine ⟨by omega, by omega, (wrL_pgs _ _ _).1, fun x => ?_, ?_⟩
    · by_cases hx : a ≤ x ∧ x < a + k
      · exact Or.inl (by omega)
      · right
        rw [wrL_by, dif_neg (by rw [hlen]; exact hx)]
    · rw [wrL_mk _ _ _ (fun e => by rw [e] at hlen; simp at hlen; omega), hlen, List.filter_map]
      congr 1
      apply List.filter_congr
      intro g _
      have h32 : a % 32 + k ≤ 32 := by
        rcases hk with rfl | rfl | rfl | rfl <;> omega
      unfold inGr
      rw [Bool.eq_iff_iff]
      simp only [Function.comp, Bool.not_eq_true', Bool.and_eq_false_iff, decide_eq_false_iff_not, bne_iff_ne, ne_eq]
      omega
  · rename_i hn
    obtain ⟨-, h2⟩ := Prod.mk.inj h
    exact absurd h2 hn
set_option maxRecDepth 100000 in
set_option maxHeartbeats 4000000 in
theorem apart_walk (W : World) (S : Nat) (hS : W.heap.size = S) (b : Int) (la : Option Addr) (lc : Nat) (l : List Opr) (hl : RdP W S la l) (n : Int) (hn0 : -9223372036854775808 ≤ n) (hn1 : n < 9223372036854775808) (a : Nat) (ha : a < 18446744073709551616) (w : Int) (hw0 : 0 ≤ w) (hw1 : w < 18446744073709551616) :
    Calls Try.prog 7 #[.int .i64 b, .slice la l.length lc, .int .i64 n, .int .u64 (a : Int), .int .u64 w] W fun e W' => e = .returned (.bool true) ∧ Below S W W' := by
  have HL := Lib.hid hl
  have HMA := Lib.hid (fun W1 (h : RdP W1 W1.heap.size la l) => made_any W1 b la lc l h)
  obtain ⟨ll, hll⟩ : ∃ n, l.length = n := ⟨_, rfl⟩
  rw [hll] at HMA ⊢
  clear hl hll
  have HN := Lib.hid (And.intro hn0 hn1)
  have HA := Lib.hid ha
  have HW := Lib.hid (And.intro hw0 hw1)
  have HS := Lib.hid hS
  clear hn0 hn1 ha hw0 hw1 hS
  go_enter Try.func7, Try.ntmps7
  go_wp2_with fail
  refine (awake_any _).mono ?_
  rintro e W1 ⟨rfl, hb1⟩
  rw [HS.out] at hb1
  have HB1 := Lib.hid hb1
  have hz1 : S ≤ W1.heap.size := by have := hb1.size; have := HS.out; omega
  have HM := Lib.hid (HMA.out W1 ((HL.out.below hb1).mono hz1))
  clear hb1 HMA
  go_wp2_with fail
  refine HM.out.mono ?_
  rintro e W2 ⟨⟨hno, rfl⟩ | ⟨hno, M, rfl, hso⟩, hb2⟩
  · have HB2 := Lib.hid (HB1.out.trans (hb2.mono hz1))
    clear hno hb2
    go_wp2_with fail
    go_ret
    exact ⟨rfl, HB2.out⟩
  · have HB2 := Lib.hid (HB1.out.trans (hb2.mono hz1))
    obtain ⟨F, ho⟩ := hso.own
    have O2 := Lib.hid (ho.low hz1)
    obtain ⟨m, hm⟩ : ∃ m, madeM b l = m := ⟨_, rfl⟩
    rw [hm] at O2
    clear ho hso hno hm HM hb2 hz1
    obtain ⟨q, hq⟩ : ∃ q, m.pgs.length = q := ⟨_, rfl⟩
    have HPL := Lib.hid hq
    have C := Lib.hid (spages_any W2 S M F m O2.out)
    rw [hq] at C
    clear hq
    go_wp2_with fail
    refine C.out.mono ?_
    rintro e W4 ⟨pa, pc, rfl, hor, hb⟩
    have hq0 := own_max hor
    have P4 := Lib.hid (RdX.new O2.out hor)
    have O4 := Lib.hid (O2.out.below hb)
    have B4 := Lib.hid (HB2.out.trans (hb.mono O2.out.sz))
    clear hor hb C HB2 O2
    obtain ⟨T, hT⟩ : ∃ T, m.mks.map (32 * ·) = T := ⟨_, rfl⟩
    have HTE := Lib.hid hT
    have hT2 : m.mks.length = T.length := by rw [← hT, List.length_map]
    obtain ⟨t, ht⟩ : ∃ k, T.length = k := ⟨_, rfl⟩
    have HTL : Hid (T.length = t ∧ t ≤ 2048) := Lib.hid ⟨ht, by have := mks_len O4.out.ok; omega⟩
    have C := Lib.hid (stags_any W4 S M F m O4.out)
    simp only [hT2, hT, ht] at C
    clear hT hT2 ht
    go_wp2_with fail
    refine C.out.mono ?_
    rintro e W5 ⟨ta, tc, rfl, hor, hb⟩
    have T5 := Lib.hid (RdX.new O4.out hor)
    have P5 := Lib.hid (P4.out.move (Moves.of_below F hb))
    have O5 := Lib.hid (O4.out.below hb)
    have B5 := Lib.hid (B4.out.trans (hb.mono O4.out.sz))
    clear hor hb C P4 O4 B4
    go_wp2_with fail
    have HZ : Hid (W5.ownsRow W5.heap.size 5 1 (.slice none 0 0) (256 * 0) (u8s (flatB m (m.pgs.take 0)))) := Lib.hid (by rw [List.take_zero]; exact World.ownsRow_nil _ _ _ _)
    go_loopw [15, 16] (fun bv i wr => ∃ k : Nat, i = .int .i64 k ∧ k ≤ q ∧ Hid (wr.ownsRow W5.heap.size 5 1 bv (256 * k) (u8s (flatB m (m.pgs.take k)))) ∧ Hid (Below W5.heap.size W5 wr)) (fun _ i _ => q - (intOf i).toNat)
    case atStart => exact ⟨0, rfl, by omega, HZ, Lib.hid (Below.refl _ _)⟩
    case round =>
      clear HZ
      obtain ⟨k, rfl, hk, HO, HBk⟩ := hrel
      obtain ⟨ra, rc, rfl, hrc⟩ := own_slice HO.out
      by_cases hlt : k < q
      · obtain ⟨b1, o1, ea, hb1, d0⟩ := (P5.out.1.below HBk.out).at_ hlt
        have hkl : k < m.pgs.length := by rw [HPL.out]; exact hlt
        rw [u64s_get m.pgs k hkl] at d0
        have hsn := flatB_snoc m m.pgs k hkl
        have hpb := page_bytes (m := m) (List.getElem_mem hkl)
        have hp6 := O5.out.ok.pl _ (List.getElem_mem hkl)
        obtain ⟨p, hp⟩ : ∃ p, m.pgs[k] = p := ⟨_, rfl⟩
        rw [hp] at d0 hsn hpb hp6
        obtain ⟨pp, hpp⟩ : ∃ x, p * 256 = x := ⟨_, rfl⟩
        have w1 : IntKind.u64.wrap ((p : Int) * 256) = (pp : Int) := by rw [IntKind.wrap_u64]; omega
        rw [hpp] at hsn hpb
        have C := Lib.hid (sbytes_any wr S M _ m (O5.out.below HBk.out) pp 256 (by omega) (by decide) (by decide))
        obtain ⟨Z, hZ⟩ : ∃ Z, bytesF m (pp : Int) 256 = Z := ⟨_, rfl⟩
        have hzl : Z.length = 256 := by rw [← hZ, hpb, manyB_len]
        rw [hZ, hzl] at C
        rw [hZ] at hsn
        have HSN := Lib.hid hsn
        obtain ⟨kk, hkk⟩ : ∃ x, 256 * k = x := ⟨_, rfl⟩
        rw [hkk] at HO
        have HK : Hid (256 * (k + 1) = kk + 256 ∧ kk ≤ 65536 ∧ k + 1 ≤ q) := Lib.hid (by have h1 := O5.out.ok.len; have h2 := O5.out.ok.bud; have h3 := HPL.out; omega)
        rw [hkk]
        have kk0 : (0 : Int) ≤ (k : Int) := by omega
        have kk1 : (k : Int) < (q : Int) := by omega
        subst ea
        clear hkl hsn hpb hp6 hp hpp hZ hzl hkk hb1 hk hlt
        go_wp2_with fail
        refine C.out.mono ?_
        rintro e Wn ⟨⟨xa, xc, rfl, hor⟩, hb⟩
        have HO2 := Lib.hid (own_kp2 HO.out (KP.of_below (fun _ => False) hb) (fun _ _ => id))
        have HR2 := Lib.hid (row_later hor (Below.refl _ _))
        have HB2 := Lib.hid (HBk.out.trans (hb.mono HBk.out.size))
        have hsz := HB2.out.size
        clear hor hb C HO HBk
        go_wp2_with (at_builtin; refine wpList_appE 51 5 (.int .u8 0) 1 1 Try.underlying51 infoU8m rfl (by decide) (by decide) _ rfl _ _ rfl W5.heap.size (.slice ra kk rc) kk (u8s (flatB m (m.pgs.take k))) rfl HO2.out xa 256 xc (u8s Z) rfl (by rw [Nat.mul_one]; exact HR2.out) (u8s_one _) (by have := HK.out; omega) hsz ?_; intro a3 c3 W3 hown3 hgrow3 hat3)
        have HO3 := Lib.hid (show W3.ownsRow W5.heap.size 5 1 (.slice a3 (kk + 256) c3) (256 * (k + 1)) (u8s (flatB m (m.pgs.take (k + 1)))) by rw [HSN.out, u8s_append, HK.out.1]; exact hown3)
        have HB3 := Lib.hid (grownB HB2.out hgrow3 (fun r e => (HO2.out.lt r e).1))
        clear hown3 hgrow3 hat3 HB2 HO2 HR2
        go_wp2_with fail
        go_roundw
        case rel => exact ⟨k + 1, by go_num, HK.out.2.2, HO3, HB3⟩
        case measure => have := HK.out; simp [intOf]; omega
      · obtain rfl : q = k := by omega
        have R6 := Lib.hid (RdX.new O5.out HO.out)
        have hr0 := own_max HO.out
        have P6 := Lib.hid (P5.out.move (Moves.of_below F HBk.out))
        have T6 := Lib.hid (T5.out.move (Moves.of_below F HBk.out))
        have O6 := Lib.hid (O5.out.below HBk.out)
        have B6 := Lib.hid (B5.out.trans (HBk.out.mono O5.out.sz))
        rw [show m.pgs.take q = m.pgs by rw [← HPL.out]; exact List.take_length] at R6
        obtain ⟨FB, hFB⟩ : ∃ x, flatB m m.pgs = x := ⟨_, rfl⟩
        rw [hFB] at R6
        have HG : Hid (∀ i k (hi : i < m.pgs.length), k < 256 → FB[256 * i + k]? = some (m.by_ (m.pgs[i] * 256 + k))) := Lib.hid (fun i k hi hk => by rw [← hFB]; exact flatB_get (fun p hp => hp) i k hi hk)
        have HQ : Hid (q ≤ 256) := Lib.hid (by have h1 := O6.out.ok.len; have h2 := O6.out.ok.bud; have h3 := HPL.out; omega)
        obtain ⟨nb, hnb⟩ : ∃ x, 256 * q = x := ⟨_, rfl⟩
        rw [hnb] at R6 hr0
        have HNB := Lib.hid hnb
        have g1 : IntKind.i64.wrap (256 * (q : Int)) = (nb : Int) := by have := HQ.out; rw [IntKind.wrap_i64]; omega
        rw [hnb]
        clear hFB hnb HO HBk hlt hk O5 T5 P5 B5 hrc
        obtain ⟨⟨m1, e1⟩, hm1⟩ : ∃ x, storeF m (a : Int) n w = x := ⟨_, rfl⟩
        have HM1 := Lib.hid hm1
        have C := Lib.hid (sstore_any _ S M F m O6.out a n w HA.out HW.out.1 HW.out.2)
        rw [hm1] at C
        dsimp only at C
        clear hm1
        go_wp2_with fail
        refine C.out.mono ?_
        rintro e W7 ⟨rfl, F2, h1, mv⟩
        have B7 := Lib.hid (B6.out.trans (mv.belowN O6.out))
        have P7 := Lib.hid (P6.out.move mv)
        have T7 := Lib.hid (T6.out.move mv)
        have R7 := Lib.hid (R6.out.move mv)
        have O7 := Lib.hid h1
        clear h1 mv C O6 P6 T6 R6 B6 g1
        by_cases he : ¬ e1 = 0
        · have hcd : (e1 != 0) = true := bne_iff_ne.2 he
          go_wp2_with fail
          go_ret
          exact ⟨by simp, B7.out⟩
        obtain rfl : e1 = 0 := Decidable.not_not.1 he
        obtain ⟨v1, v2, v3, v4, v5⟩ := apart_all HM1.out
        have HV := Lib.hid v4
        have HV5 := Lib.hid v5
        have hp7 : Hid (m1.pgs = m.pgs) := Lib.hid v3
        obtain ⟨nn, rfl⟩ : ∃ k : Nat, n = k := ⟨n.toNat, by omega⟩
        have hnn : Hid (1 ≤ nn ∧ nn ≤ 8) := Lib.hid (by omega)
        have wn : IntKind.u64.wrap (nn : Int) = (nn : Int) := by rw [IntKind.wrap_u64]; omega
        clear v1 v2 v3 v4 v5 HM1
        go_wp2_with fail
        go_loopw [18, 19, 20, 21, 22] (fun i _ _ _ _ wr => ∃ k : Nat, i = .int .i64 k ∧ k ≤ q ∧ Hid (Below W7.heap.size W7 wr)) (fun i _ _ _ _ _ => q - (intOf i).toNat)
        case atStart => exact ⟨0, rfl, by omega, Lib.hid (Below.refl _ _)⟩
        case round =>
          obtain ⟨k, rfl, hk, HBk⟩ := hrel
          by_cases hlt : k < q
          · obtain ⟨b1, o1, ea, hb1, d0⟩ := (P7.out.1.below HBk.out).at_ hlt
            have hkl : k < m.pgs.length := by rw [HPL.out]; exact hlt
            rw [u64s_get m.pgs k hkl] at d0
            have hpb := page_bytes (m := m1) (p := m.pgs[k]) (by rw [hp7.out]; exact List.getElem_mem hkl)
            have hp6 := O7.out.ok.pl m.pgs[k] (by rw [hp7.out]; exact List.getElem_mem hkl)
            have hg := fun j => HG.out k j hkl
            obtain ⟨p, hp⟩ : ∃ p, m.pgs[k] = p := ⟨_, rfl⟩
            rw [hp] at d0 hpb hp6
            simp only [hp] at hg
            obtain ⟨pp, hpp⟩ : ∃ x, p * 256 = x := ⟨_, rfl⟩
            have w1 : IntKind.u64.wrap ((p : Int) * 256) = (pp : Int) := by rw [IntKind.wrap_u64]; omega
            rw [hpp] at hpb
            simp only [hpp] at hg
            have C := Lib.hid (sbytes_any wr S M _ m1 (O7.out.below HBk.out) pp 256 (by omega) (by decide) (by decide))
            obtain ⟨Z, hZ⟩ : ∃ Z, bytesF m1 (pp : Int) 256 = Z := ⟨_, rfl⟩
            have hzl : Z.length = 256 := by rw [← hZ, hpb, manyB_len]
            have HZG : Hid (∀ j, (h : j < Z.length) → Z[j] = m1.by_ (pp + j)) := Lib.hid (by
              intro j h
              have e : Z = manyB m1 pp 256 := by rw [← hZ, hpb]
              subst e
              exact manyB_get _ _ _ _ _)
            rw [hZ, hzl] at C
            have HZL := Lib.hid hzl
            have HGG := Lib.hid hg
            have HPP : Hid (pp ≤ 16776960) := Lib.hid (by omega)
            obtain ⟨kk, hkk⟩ : ∃ x, 256 * k = x := ⟨_, rfl⟩
            have w2 : IntKind.i64.wrap (256 * (k : Int)) = (kk : Int) := by have := HQ.out; rw [IntKind.wrap_i64]; omega
            have HKK : Hid (256 * k = kk ∧ kk + 256 ≤ nb) := Lib.hid (by have := HNB.out; omega)
            have kk0 : (0 : Int) ≤ (k : Int) := by omega
            have kk1 : (k : Int) < (q : Int) := by omega
            have HKQ := Lib.hid hlt
            have HPK : Hid (∀ h : k < m.pgs.length, m.pgs[k] = p) := Lib.hid (fun _ => hp)
            subst ea
            clear hkl hpb hp6 hp hpp hZ hzl hkk hb1 hk hlt hg
            go_wp2_with fail
            refine C.out.mono ?_
            rintro e Wn ⟨⟨xa, xc, rfl, hor⟩, hb⟩
            have HX := Lib.hid (row_later hor (Below.refl _ _))
            have HBn := Lib.hid (HBk.out.trans (hb.mono HBk.out.size))
            clear hor hb C HBk
            go_wp2_with fail
            go_loopw [20, 21, 22] (fun i _ _ wr => ∃ j : Nat, i = .int .i64 j ∧ j ≤ 256 ∧ Hid (Below Wn.heap.size Wn wr)) (fun i _ _ _ => 256 - (intOf i).toNat)
            case atStart => exact ⟨0, rfl, by omega, Lib.hid (Below.refl _ _)⟩
            case round =>
              obtain ⟨j, rfl, hj, HBj⟩ := hrel
              by_cases hlj : j < 256
              · have HB := Lib.hid (HBn.out.trans (HBj.out.mono HBn.out.size))
                have d1 : wr.cell? ⟨b1, o1 + k, none⟩ = some (.int .u64 (p : Int)) := by
                  obtain ⟨b2, o2, e2, hb2, d2⟩ := (P7.out.1.below HB.out).at_ HKQ.out
                  cases e2
                  rw [u64s_get m.pgs k (by rw [HPL.out]; exact HKQ.out)] at d2
                  rw [d2, HPK.out]
                obtain ⟨x, hx⟩ : ∃ x, pp + j = x := ⟨_, rfl⟩
                have hxs : x < 16777300 := by have := HPP.out; omega
                have u1 : IntKind.u64.wrap (j : Int) = (j : Int) := by rw [IntKind.wrap_u64]; omega
                have u2 : IntKind.u64.wrap ((pp : Int) + (j : Int)) = (x : Int) := by rw [IntKind.wrap_u64]; omega
                have j0 : (0 : Int) ≤ (j : Int) := by omega
                have j1 : (j : Int) < 256 := by omega
                by_cases hown : a ≤ x ∧ x < a + nn
                · have c1 : (a : Int) ≤ (x : Int) := by omega
                  have u3 : IntKind.u64.wrap ((x : Int) - (a : Int)) = (x : Int) - (a : Int) := by rw [IntKind.wrap_u64]; omega
                  have c2 : decide ((x : Int) - (a : Int) < (nn : Int)) = true := decide_eq_true (by omega)
                  have HJ := Lib.hid hlj
                  clear hown hx hxs hlj hj
                  go_wp2_with fail
                  go_quiet (fail)
                  go_wp2_with fail
                  go_roundw
                  case rel => exact ⟨j + 1, by go_num, HJ.out, Lib.hid (bTrans HBj.out (below_dN _ _))⟩
                  case measure => have := HJ.out; simp [intOf]; omega
                · obtain ⟨b3, o3, e3, hb3, d3⟩ := (HX.out.below HBj.out).at_ (show j < 256 from hlj)
                  obtain ⟨ri, hri⟩ : ∃ x, kk + j = x := ⟨_, rfl⟩
                  have hrn : ri < nb := by have := HKK.out; omega
                  obtain ⟨b4, o4, e4, hb4, d4⟩ := (R7.out.1.below HB.out).at_ hrn
                  have hjz : j < Z.length := by rw [HZL.out]; exact hlj
                  have hv := (HV.out x).resolve_left (by omega)
                  have hz := HZG.out j hjz
                  have hgj := HGG.out j hlj
                  rw [HKK.out.1, hri, hx] at hgj
                  rw [hx, hv] at hz
                  rw [u8s_get Z j hjz, hz] at d3
                  have hf4 : (u8s FB)[ri]? = some (.int .u8 ((m.by_ x : Nat) : Int)) := by
                    obtain ⟨hlen, he⟩ := List.getElem?_eq_some_iff.1 hgj
                    rw [u8s_get FB ri hlen, he]
                  rw [hf4] at d4
                  obtain ⟨y, hy⟩ : ∃ y, m.by_ x = y := ⟨_, rfl⟩
                  rw [hy] at d3 d4
                  have u4 : IntKind.i64.wrap ((kk : Int) + (j : Int)) = (ri : Int) := by have := HKK.out; rw [IntKind.wrap_i64]; omega
                  have r0 : (0 : Int) ≤ (ri : Int) := by omega
                  have r1 : (ri : Int) < (nb : Int) := by omega
                  have HJ := Lib.hid hlj
                  subst e3
                  subst e4
                  by_cases hax : a ≤ x
                  · have c1 : (a : Int) ≤ (x : Int) := by omega
                    have u3 : IntKind.u64.wrap ((x : Int) - (a : Int)) = (x : Int) - (a : Int) := by rw [IntKind.wrap_u64]; omega
                    have c2 : decide ((x : Int) - (a : Int) < (nn : Int)) = false := decide_eq_false (by omega)
                    clear hown hx hxs hlj hj hri hrn hjz hv hz hgj hf4 hy hax hb3 hb4
                    go_wp2_with fail
                    go_quiet (fail)
                    go_wp2_with fail
                    go_roundw
                    case rel => exact ⟨j + 1, by go_num, HJ.out, Lib.hid (bTrans HBj.out (below_dN _ _))⟩
                    case measure => have := HJ.out; simp [intOf]; omega
                  · have c0 : ¬ (a : Int) ≤ (x : Int) := by omega
                    have c1 : decide ((a : Int) ≤ (x : Int)) = false := decide_eq_false c0
                    clear hown hx hxs hlj hj hri hrn hjz hv hz hgj hf4 hy hax hb3 hb4
                    go_wp2_with fail
                    go_quiet (fail)
                    go_wp2_with fail
                    go_roundw
                    case rel => exact ⟨j + 1, by go_num, HJ.out, Lib.hid (bTrans HBj.out (below_dN _ _))⟩
                    case measure => have := HJ.out; simp [intOf]; omega
              · obtain rfl : j = 256 := by omega
                have HB := Lib.hid (HBn.out.trans (HBj.out.mono HBn.out.size))
                go_wp2_with fail
                go_roundw
                case rel => exact ⟨k + 1, by go_num, HKQ.out, HB⟩
                case measure => have := HKQ.out; simp [intOf]; omega
          · obtain rfl : q = k := by omega
            have O8 := Lib.hid (O7.out.below HBk.out)
            have T8 := Lib.hid (T7.out.move (Moves.of_below F2 HBk.out))
            have B8 := Lib.hid (B7.out.trans (HBk.out.mono O7.out.sz))
            obtain ⟨r, hr⟩ : ∃ r, a % 32 = r := ⟨_, rfl⟩
            obtain ⟨s, hs⟩ : ∃ s, a - r = s := ⟨_, rfl⟩
            have g1 : (a : Int) % 32 = (r : Int) := by omega
            have g2 : IntKind.u64.wrap ((a : Int) - (r : Int)) = (s : Int) := by have := HA.out; rw [IntKind.wrap_u64]; omega
            have HFI : Hid (m1.mks.map (32 * ·) = T.filter (fun t => t != s)) := Lib.hid (by rw [HV5.out, HTE.out, hr, hs])
            have HZ : Hid (wr.ownsRow wr.heap.size 39 1 (.slice none 0 0) ((T.take 0).filter (fun t => t != s)).length (u64s ((T.take 0).filter (fun t => t != s)))) := Lib.hid (by rw [List.take_zero]; exact World.ownsRow_nil _ _ _ _)
            clear hr hs HBk O7 T7 B7 P7 R7 HV5 HV wn hk hlt
            obtain ⟨W8, hW8⟩ : ∃ W8, wr = W8 := ⟨_, rfl⟩
            rw [hW8] at HZ O8 T8 B8 ⊢
            clear hW8
            go_wp2_with fail
            go_loopw [23, 24] (fun bv i wr => ∃ k : Nat, i = .int .i64 k ∧ k ≤ t ∧ Hid (wr.ownsRow W8.heap.size 39 1 bv ((T.take k).filter (fun t => t != s)).length (u64s ((T.take k).filter (fun t => t != s)))) ∧ Hid (Below W8.heap.size W8 wr)) (fun _ i _ => t - (intOf i).toNat)
            case atStart => exact ⟨0, rfl, by omega, HZ, Lib.hid (Below.refl _ _)⟩
            case round =>
              clear HZ
              obtain ⟨k, rfl, hk, HO, HBk⟩ := hrel
              have hfl : ((T.take k).filter (fun t => t != s)).length ≤ 2048 := Nat.le_trans (List.length_filter_le _ _) (by rw [List.length_take]; have := HTL.out; omega)
              by_cases hlt : k < t
              · obtain ⟨va, vc, rfl, hvc⟩ := own_slice HO.out
                obtain ⟨b1, o1, ea, hb1, d0⟩ := (T8.out.1.below HBk.out).at_ hlt
                have hkl : k < T.length := by rw [HTL.out.1]; exact hlt
                rw [u64s_get T k hkl] at d0
                have hts := List.take_succ_eq_append_getElem hkl
                obtain ⟨x, hx⟩ : ∃ x, T[k] = x := ⟨_, rfl⟩
                rw [hx] at d0 hts
                have hff : (T.take (k + 1)).filter (fun t => t != s) = (T.take k).filter (fun t => t != s) ++ [x].filter (fun t => t != s) := by rw [hts, List.filter_append]
                obtain ⟨ln, hln⟩ : ∃ x, ((T.take k).filter (fun t => t != s)).length = x := ⟨_, rfl⟩
                obtain ⟨L, hL⟩ : ∃ L, (T.take k).filter (fun t => t != s) = L := ⟨_, rfl⟩
                rw [hln] at hfl
                have HFF := Lib.hid hff
                rw [hln] at HO
                rw [hL] at HO HFF hln
                rw [hL, hln]
                have HLN := Lib.hid hln
                have kk0 : (0 : Int) ≤ (k : Int) := by omega
                have kk1 : (k : Int) < (t : Int) := by omega
                have ht2 := HTL.out.2
                have HKT : Hid (k + 1 ≤ t) := Lib.hid hlt
                have hsz := HBk.out.size
                subst ea
                clear hkl hx hts hff hln hL hb1 hk hlt
                by_cases hxs : x = s
                · subst hxs
                  have hcd : ((x : Int) != (x : Int)) = false := by simp
                  have e0 : ([x].filter (fun t => t != x)) = [] := by simp
                  rw [e0, List.append_nil] at HFF
                  have HO3 : Hid (wr.ownsRow W8.heap.size 39 1 (.slice va ln vc) ((T.take (k + 1)).filter (fun t => t != x)).length (u64s ((T.take (k + 1)).filter (fun t => t != x)))) := Lib.hid (by rw [HFF.out, HLN.out]; exact HO.out)
                  clear e0 HFF HO hfl
                  go_wp2_with fail
                  go_roundw
                  case rel => exact ⟨k + 1, by go_num, HKT.out, HO3, HBk⟩
                  case measure => have := HKT.out; simp [intOf]; omega
                · have hcd : ((x : Int) != (s : Int)) = true := bne_iff_ne.2 (by omega)
                  have e0 : ([x].filter (fun t => t != s)) = [x] := by simp [hxs]
                  rw [e0] at HFF
                  clear e0 hxs
                  go_wp2_with (at_builtin; refine wpList_appE 32 39 (.int .u64 0) 1 8 Try.underlying32 infoU64 rfl (by decide) (by decide) _ rfl _ _ rfl W8.heap.size (.slice va ln vc) ln (u64s L) rfl (HO.out.alloc _) (some ⟨wr.heap.size, 0, none⟩) 1 1 [.int .u64 (x : Int)] rfl (Rd.lit wr #[.int .u64 (x : Int)] 39 (by show 1 ≤ maxLen; decide)) (fun u hu => by simp at hu; subst hu; rfl) (by omega) (by rw [size_alloc]; exact Nat.le_succ_of_le hsz) ?_; intro a3 c3 W3 hown3 hgrow3 hat3)
                  have HO3 : Hid (W3.ownsRow W8.heap.size 39 1 (.slice a3 (ln + 1) c3) ((T.take (k + 1)).filter (fun t => t != s)).length (u64s ((T.take (k + 1)).filter (fun t => t != s)))) := Lib.hid (by
                    rw [HFF.out, List.length_append, HLN.out, u64s_snoc]
                    exact hown3)
                  have HB3 := Lib.hid (grownB (bTrans HBk.out (bAlloc (Below.refl _ _) (.cells #[.int .u64 (x : Int)] 39))) hgrow3 (fun r e => (HO.out.lt r e).1))
                  clear hown3 hgrow3 hat3 HO HBk
                  go_wp2_with fail
                  go_roundw
                  case rel => exact ⟨k + 1, by go_num, HKT.out, HO3, HB3⟩
                  case measure => have := HKT.out; simp [intOf]; omega
              · obtain rfl : t = k := by omega
                have htk : T.take t = T := by rw [← HTL.out.1]; exact List.take_length
                rw [htk] at HO hfl
                obtain ⟨U, hU⟩ : ∃ U, T.filter (fun t => t != s) = U := ⟨_, rfl⟩
                rw [hU] at HO hfl HFI
                obtain ⟨u, hu⟩ : ∃ u, U.length = u := ⟨_, rfl⟩
                rw [hu] at HO hfl
                have HUL := Lib.hid hu
                obtain ⟨va, vc, rfl, hvc⟩ := own_slice HO.out
                have O9 := Lib.hid (O8.out.below HBk.out)
                have B9 := Lib.hid (B8.out.trans (HBk.out.mono O8.out.sz))
                have V9 := Lib.hid (row_later HO.out (Below.refl _ _))
                have hml : m1.mks.length = u := by rw [← hu, ← HFI.out, List.length_map]
                have C := Lib.hid (stags_any _ S M F2 m1 O9.out)
                rw [HFI.out, hml] at C
                clear htk hU hu HO HBk hk hlt O8 B8 T8 hml hvc g1 g2
                go_wp2_with fail
                refine C.out.mono ?_
                rintro e Wa ⟨ua, uc, rfl, hor, hb⟩
                have Ua := Lib.hid (row_later hor (Below.refl _ _))
                have Va := Lib.hid (V9.out.below hb)
                have Ba := Lib.hid (B9.out.trans (hb.mono O9.out.sz))
                have hSa := O9.out.below hb
                have hza := hSa.sz
                clear hor hb C V9 B9 O9 hSa
                have C := Lib.hid (usame_any ua va u uc u vc U U Wa Ua.out Va.out (by omega) (by omega))
                go_wp2_with fail
                refine C.out.mono ?_
                rintro e Wb ⟨rfl, hb⟩
                have Bb := Lib.hid (Ba.out.trans (hb.mono hza))
                clear hb C
                go_wp2_with fail
                go_ret
                exact ⟨by simp, Bb.out⟩
theorem TagmemApart_walk (W : World) (b : Int) (la : Option Addr) (lc : Nat) (l : List Opr) (hl : RdP W W.heap.size la l) (n : Int) (hn0 : -9223372036854775808 ≤ n) (hn1 : n < 9223372036854775808) (x w : Int) (hx0 : 0 ≤ x) (hx1 : x < 18446744073709551616) (hw0 : 0 ≤ w) (hw1 : w < 18446744073709551616) :
    Calls Try.prog 7 #[.int .i64 b, .slice la l.length lc, .int .i64 n, .int .u64 x, .int .u64 w] W fun e W' => e = .returned (.bool true) ∧ Below W.heap.size W W' := by
  obtain ⟨x, rfl⟩ : ∃ a : Nat, x = a := ⟨x.toNat, by omega⟩
  exact apart_walk W W.heap.size rfl b la lc l hl n hn0 hn1 x (by omega) w hw0 hw1
end Go.Proofs.Ytgfkjlknkbdjiaa
