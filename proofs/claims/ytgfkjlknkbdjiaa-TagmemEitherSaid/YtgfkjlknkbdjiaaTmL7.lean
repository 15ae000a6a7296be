/- Two numbers in two places, in either order: contract. -/
import Derived.Test.YtgfkjlknkbdjiaaTmL6
namespace Go.Proofs.Ytgfkjlknkbdjiaa
set_option linter.unusedVariables false
set_option linter.unusedSimpArgs false
open Go.Joins Go.ChangeShapes Go.WideShapes Go.ChangeAt Go.RowKit Go.Deep

theorem mm_ext {x y : Mm} (h1 : x.pgs = y.pgs) (h2 : x.by_ = y.by_) (h3 : x.mks = y.mks) (h4 : x.bud = y.bud) : x = y := by
  cases x; cases y; cases h1; cases h2; cases h3; cases h4; rfl
theorem wrL_swap (m : Mm) (s t : Nat) (A B : List Nat) (hA : A.length = 8) (hB : B.length = 8) (hd : s + 8 ≤ t ∨ t + 8 ≤ s) : wrL (wrL m s A) t B = wrL (wrL m t B) s A := by
  have nA : A ≠ [] := fun e => by rw [e] at hA; cases hA
  have nB : B ≠ [] := fun e => by rw [e] at hB; cases hB
  refine mm_ext ?_ ?_ ?_ ?_
  · rw [(wrL_pgs _ _ _).1, (wrL_pgs _ _ _).1, (wrL_pgs _ _ _).1, (wrL_pgs _ _ _).1]
  · funext x
    rw [wrL_by, wrL_by, wrL_by, wrL_by]
    by_cases h1 : s ≤ x ∧ x < s + A.length
    · rw [dif_neg (by omega), dif_pos h1, dif_pos h1]
    · rw [dif_neg h1, dif_neg h1]
  · rw [wrL_mk _ _ _ nB, wrL_mk _ _ _ nA, wrL_mk _ _ _ nA, wrL_mk _ _ _ nB, List.filter_filter, List.filter_filter]
    congr 1
    funext g
    exact Bool.and_comm _ _
  · rw [(wrL_pgs _ _ _).2, (wrL_pgs _ _ _).2, (wrL_pgs _ _ _).2, (wrL_pgs _ _ _).2]
theorem numE_pgs {m m' : Mm} (h : m'.pgs = m.pgs) (a n : Int) : numE m' a n = numE m a n := by unfold numE isIn; rw [h]
theorem storeF_if (m : Mm) (a : Nat) (w : Int) : storeF m (a : Int) 8 w = (if numE m (a : Int) 8 = 0 then wrL m a (littleN w.toNat 8) else m, numE m (a : Int) 8) := by
  unfold storeF
  split
  · rename_i h; rw [h, Int.toNat_natCast]; rfl
  · rfl
theorem either_all (m : Mm) (s t : Nat) (v w : Int) (hs : s % 8 = 0) (ht : t % 8 = 0) (hne : s ≠ t) :
    ∃ mA mB z e1 e2, storeF m (s : Int) 8 v = (mA, e1) ∧ storeF mA (t : Int) 8 w = (z, e2) ∧ storeF m (t : Int) 8 w = (mB, e2) ∧ storeF mB (s : Int) 8 v = (z, e1) := by
  have hp : ∀ (m : Mm) (c : Prop) [Decidable c] (a : Nat) (l : List Nat), (if c then wrL m a l else m).pgs = m.pgs := fun m c _ a l => by split; exact (wrL_pgs m a l).1; rfl
  refine ⟨_, _, (if numE m (t : Int) 8 = 0 then wrL (if numE m (s : Int) 8 = 0 then wrL m s (littleN v.toNat 8) else m) t (littleN w.toNat 8) else (if numE m (s : Int) 8 = 0 then wrL m s (littleN v.toNat 8) else m)), _, _, storeF_if m s v, ?_, storeF_if m t w, ?_⟩
  · rw [storeF_if, numE_pgs (hp m _ s _)]
  · rw [storeF_if, numE_pgs (hp m _ t _)]
    congr 1
    split
    · split
      · exact (wrL_swap m s t _ _ (littleN_length _ _) (littleN_length _ _) (by omega)).symm
      · rfl
    · rfl
set_option maxRecDepth 100000 in
set_option maxHeartbeats 2000000 in
theorem either_walk (W : World) (b : Int) (la : Option Addr) (lc : Nat) (l : List Opr) (hl : RdP W W.heap.size la l) (x y : Nat) (hx : x < 18446744073709551616) (hy : y < 18446744073709551616) (v w : Int) (hv0 : 0 ≤ v) (hv1 : v < 18446744073709551616) (hw0 : 0 ≤ w) (hw1 : w < 18446744073709551616) :
    Calls Try.prog 9 #[.int .i64 b, .slice la l.length lc, .int .u64 (x : Int), .int .u64 (y : Int), .int .u64 v, .int .u64 w] W fun e W' => e = .returned (.bool true) ∧ Below W.heap.size W W' := by
  have HL := Lib.hid hl
  have HMA := Lib.hid (fun W1 (h : RdP W1 W1.heap.size la l) => made_any W1 b la lc l h)
  obtain ⟨ll, hll⟩ : ∃ n, l.length = n := ⟨_, rfl⟩
  rw [hll] at HMA ⊢
  clear hl hll
  obtain ⟨r1, hr1⟩ : ∃ r, x % 8 = r := ⟨_, rfl⟩
  obtain ⟨s, hs⟩ : ∃ s, x = s + r1 := ⟨x - r1, by omega⟩
  obtain ⟨r2, hr2⟩ : ∃ r, y % 8 = r := ⟨_, rfl⟩
  obtain ⟨t, ht⟩ : ∃ t, y = t + r2 := ⟨y - r2, by omega⟩
  have g1 : (x : Int) % 8 = (r1 : Int) := by omega
  have g2 : IntKind.u64.wrap ((x : Int) - (r1 : Int)) = (s : Int) := by rw [IntKind.wrap_u64]; omega
  have g3 : (y : Int) % 8 = (r2 : Int) := by omega
  have g4 : IntKind.u64.wrap ((y : Int) - (r2 : Int)) = (t : Int) := by rw [IntKind.wrap_u64]; omega
  have HK : Hid (s % 8 = 0 ∧ t % 8 = 0 ∧ s < 18446744073709551616 ∧ t < 18446744073709551616) := Lib.hid (by omega)
  have HV := Lib.hid (And.intro hv0 hv1)
  have HW := Lib.hid (And.intro hw0 hw1)
  clear hr1 hs hr2 ht hx hy hv0 hv1 hw0 hw1
  go_enter Try.func9, Try.ntmps9
  go_wp2_with fail
  refine (awake_any _).mono ?_
  rintro e W1 ⟨rfl, hb1⟩
  have HB1 := Lib.hid hb1
  have HM := Lib.hid (HMA.out W1 ((HL.out.below hb1).mono hb1.size))
  clear hb1
  go_wp2_with fail
  refine HM.out.mono ?_
  rintro e W2 ⟨hmm, hb2⟩
  have HMM := Lib.hid hmm
  have HB2 := Lib.hid (HB1.out.trans (hb2.mono HB1.out.size))
  have HM2 := Lib.hid (HMA.out W2 ((HL.out.below HB2.out).mono HB2.out.size))
  clear hb2 hmm HM HMA
  rcases HMM.out with ⟨hno, rfl⟩ | ⟨hno, M1, rfl, hso⟩
  · clear hno HMM
    go_wp2_with fail
    refine HM2.out.mono ?_
    rintro e W3 ⟨hmm, hb3⟩
    have HB3 := Lib.hid (HB2.out.trans (hb3.mono HB2.out.size))
    clear hb3
    rcases hmm with ⟨hno, rfl⟩ | ⟨hno, M2, rfl, hso⟩
    · clear hno
      go_wp2_with fail
      go_ret
      exact ⟨by simp, HB3.out⟩
    · clear hno hso
      go_wp2_with fail
      go_ret
      exact ⟨by simp, HB3.out⟩
  · have HNO := Lib.hid hno
    obtain ⟨F, ho⟩ := hso.own
    have OA := Lib.hid (ho.low HB1.out.size)
    obtain ⟨m, hm⟩ : ∃ m, madeM b l = m := ⟨_, rfl⟩
    rw [hm] at OA HM2
    clear ho hso hno HMM
    go_wp2_with fail
    refine HM2.out.mono ?_
    rintro e W3 ⟨⟨hno, _⟩ | ⟨hno, M2, rfl, hso⟩, hb3⟩
    · rw [HNO.out] at hno
      cases hno
    have HB3 := Lib.hid (HB2.out.trans (hb3.mono HB2.out.size))
    obtain ⟨G, ho⟩ := hso.own
    have HD : Hid (∀ q, G q → ¬ F q) := Lib.hid (fun q h1 h2 => by have := ho.ge q h1; have := OA.out.lt q h2; omega)
    have OB := Lib.hid (ho.low HB2.out.size)
    have OA3 := Lib.hid (OA.out.below hb3)
    clear ho hso hno hb3 hm HM2 OA HNO
    by_cases hst : s = t
    · subst hst
      go_wp2_with fail
      go_ret
      exact ⟨by simp, HB3.out⟩
    have hcd : ((s : Int) == (t : Int)) = false := beq_eq_false_iff_ne.2 (by omega)
    obtain ⟨mA, mB, z, e1, e2, q1, q2, q3, q4⟩ := either_all m s t v w HK.out.1 HK.out.2.1 hst
    have Q2 := Lib.hid q2
    have Q3 := Lib.hid q3
    have Q4 := Lib.hid q4
    have C := Lib.hid (sstore_any W3 W.heap.size M1 F m OA3.out s 8 v HK.out.2.2.1 HV.out.1 HV.out.2)
    rw [q1] at C
    dsimp only at C
    clear q1 q2 q3 q4 hst
    go_wp2_with fail
    refine C.out.mono ?_
    rintro e W4 ⟨rfl, F4, h4, mv⟩
    have HB4 := Lib.hid (HB3.out.trans (mv.belowN OA3.out))
    have ob := OB.out.beside mv HD.out
    have OB4 := Lib.hid ob.1
    have HD4 := Lib.hid ob.2
    have OA4 := Lib.hid h4
    clear h4 mv C ob OB HD OA3 hcd
    have C := Lib.hid (sstore_any W4 W.heap.size M1 F4 mA OA4.out t 8 w HK.out.2.2.2 HW.out.1 HW.out.2)
    rw [Q2.out] at C
    dsimp only at C
    go_wp2_with fail
    refine C.out.mono ?_
    rintro e W5 ⟨rfl, F5, h4, mv⟩
    have HB5 := Lib.hid (HB4.out.trans (mv.belowN OA4.out))
    have ob := OB4.out.beside mv HD4.out
    have OB5 := Lib.hid ob.1
    have HD5 : Hid (∀ q, F5 q → ¬ G q) := Lib.hid (fun q h1 h2 => ob.2 q h2 h1)
    have OA5 := Lib.hid h4
    clear h4 mv C ob OB4 HD4 OA4
    have C := Lib.hid (sstore_any W5 W.heap.size M2 G m OB5.out t 8 w HK.out.2.2.2 HW.out.1 HW.out.2)
    rw [Q3.out] at C
    dsimp only at C
    go_wp2_with fail
    refine C.out.mono ?_
    rintro e W6 ⟨rfl, G6, h4, mv⟩
    have HB6 := Lib.hid (HB5.out.trans (mv.belowN OB5.out))
    have ob := OA5.out.beside mv HD5.out
    have OA6 := Lib.hid ob.1
    have HD6 := Lib.hid ob.2
    have OB6 := Lib.hid h4
    clear h4 mv C ob OA5 HD5 OB5
    have C := Lib.hid (sstore_any W6 W.heap.size M2 G6 mB OB6.out s 8 v HK.out.2.2.1 HV.out.1 HV.out.2)
    rw [Q4.out] at C
    dsimp only at C
    go_wp2_with fail
    refine C.out.mono ?_
    rintro e W7 ⟨rfl, G7, h4, mv⟩
    have HB7 := Lib.hid (HB6.out.trans (mv.belowN OB6.out))
    have ob := OA6.out.beside mv HD6.out
    have OA7 := Lib.hid ob.1
    have OB7 := Lib.hid h4
    clear h4 mv C ob OA6 HD6 OB6
    obtain ⟨P, hP⟩ : ∃ P, bytesF z (s : Int) 8 = P := ⟨_, rfl⟩
    obtain ⟨Q, hQ⟩ : ∃ Q, bytesF z (t : Int) 8 = Q := ⟨_, rfl⟩
    obtain ⟨T, hT⟩ : ∃ T, z.mks.map (32 * ·) = T := ⟨_, rfl⟩
    have hT2 : z.mks.length = T.length := by rw [← hT, List.length_map]
    obtain ⟨p, hp⟩ : ∃ p, P.length = p := ⟨_, rfl⟩
    obtain ⟨q, hq⟩ : ∃ q, Q.length = q := ⟨_, rfl⟩
    obtain ⟨k, hk⟩ : ∃ k, T.length = k := ⟨_, rfl⟩
    have HC1 := Lib.hid (fun W1 (h : Own1 W1 W.heap.size F5 M1 z) => sbytes_any W1 W.heap.size M1 F5 z h s 8 HK.out.2.2.1 (by decide) (by decide))
    have HC2 := Lib.hid (fun W1 (h : Own1 W1 W.heap.size G7 M2 z) => sbytes_any W1 W.heap.size M2 G7 z h s 8 HK.out.2.2.1 (by decide) (by decide))
    have HC3 := Lib.hid (fun W1 (h : Own1 W1 W.heap.size F5 M1 z) => sbytes_any W1 W.heap.size M1 F5 z h t 8 HK.out.2.2.2 (by decide) (by decide))
    have HC4 := Lib.hid (fun W1 (h : Own1 W1 W.heap.size G7 M2 z) => sbytes_any W1 W.heap.size M2 G7 z h t 8 HK.out.2.2.2 (by decide) (by decide))
    have HC5 := Lib.hid (fun W1 (h : Own1 W1 W.heap.size F5 M1 z) => stags_any W1 W.heap.size M1 F5 z h)
    have HC6 := Lib.hid (fun W1 (h : Own1 W1 W.heap.size G7 M2 z) => stags_any W1 W.heap.size M2 G7 z h)
    simp only [hP, hQ, hp, hq, hT2, hT, hk] at HC1 HC2 HC3 HC4 HC5 HC6
    clear hP hQ hT hT2 hp hq hk
    have C := Lib.hid (HC1.out W7 OA7.out)
    go_wp2_with fail
    refine C.out.mono ?_
    rintro e W8 ⟨⟨xa, xc, rfl, hor⟩, hb⟩
    have X8 := Lib.hid (row_later hor (Below.refl _ _))
    have hp0 := own_max hor
    have HB8 := Lib.hid (HB7.out.trans (hb.mono HB7.out.size))
    have OA8 := Lib.hid (OA7.out.below hb)
    have OB8 := Lib.hid (OB7.out.below hb)
    clear hor hb C OA7 OB7 HC1
    have C := Lib.hid (HC2.out W8 OB8.out)
    go_wp2_with fail
    refine C.out.mono ?_
    rintro e W9 ⟨⟨ya, yc, rfl, hor⟩, hb⟩
    have Y9 := Lib.hid (row_later hor (Below.refl _ _))
    have X9 := Lib.hid (X8.out.below hb)
    have HB9 := Lib.hid (HB8.out.trans (hb.mono HB8.out.size))
    have OA9 := Lib.hid (OA8.out.below hb)
    have OB9 := Lib.hid (OB8.out.below hb)
    clear hor hb C OA8 OB8 HC2 X8
    have C := Lib.hid (HC3.out W9 OA9.out)
    go_wp2_with fail
    refine C.out.mono ?_
    rintro e Wa ⟨⟨pa, pc, rfl, hor⟩, hb⟩
    have Pa := Lib.hid (row_later hor (Below.refl _ _))
    have hq0 := own_max hor
    have Xa := Lib.hid (X9.out.below hb)
    have Ya := Lib.hid (Y9.out.below hb)
    have HBa := Lib.hid (HB9.out.trans (hb.mono HB9.out.size))
    have OAa := Lib.hid (OA9.out.below hb)
    have OBa := Lib.hid (OB9.out.below hb)
    clear hor hb C OA9 OB9 HC3 X9 Y9
    have C := Lib.hid (HC4.out Wa OBa.out)
    go_wp2_with fail
    refine C.out.mono ?_
    rintro e Wb ⟨⟨qa, qc, rfl, hor⟩, hb⟩
    have Qb := Lib.hid (row_later hor (Below.refl _ _))
    have Pb := Lib.hid (Pa.out.below hb)
    have Xb := Lib.hid (Xa.out.below hb)
    have Yb := Lib.hid (Ya.out.below hb)
    have HBb := Lib.hid (HBa.out.trans (hb.mono HBa.out.size))
    have OAb := Lib.hid (OAa.out.below hb)
    have OBb := Lib.hid (OBa.out.below hb)
    clear hor hb C OAa OBa HC4 Xa Ya Pa
    have C := Lib.hid (HC5.out Wb OAb.out)
    go_wp2_with fail
    refine C.out.mono ?_
    rintro e Wc ⟨sa, sc, rfl, hor, hb⟩
    have Sc := Lib.hid (row_later hor (Below.refl _ _))
    have hk0 := own_max hor
    have Qc := Lib.hid (Qb.out.below hb)
    have Pc := Lib.hid (Pb.out.below hb)
    have Xc := Lib.hid (Xb.out.below hb)
    have Yc := Lib.hid (Yb.out.below hb)
    have HBc := Lib.hid (HBb.out.trans (hb.mono HBb.out.size))
    have OBc := Lib.hid (OBb.out.below hb)
    clear hor hb C OAb OBb HC5 Xb Yb Pb Qb
    have C := Lib.hid (HC6.out Wc OBc.out)
    go_wp2_with fail
    refine C.out.mono ?_
    rintro e Wd ⟨ta, tc, rfl, hor, hb⟩
    have Td := Lib.hid (row_later hor (Below.refl _ _))
    have Sd := Lib.hid (Sc.out.below hb)
    have Qd := Lib.hid (Qc.out.below hb)
    have Pd := Lib.hid (Pc.out.below hb)
    have Xd := Lib.hid (Xc.out.below hb)
    have Yd := Lib.hid (Yc.out.below hb)
    have HBd := Lib.hid (HBc.out.trans (hb.mono HBc.out.size))
    clear hor hb C OBc HC6 Xc Yc Pc Qc Sc
    have C := Lib.hid (same_any xa ya p xc p yc P P Wd Xd.out Yd.out hp0 hp0)
    go_wp2_with fail
    refine C.out.mono ?_
    rintro e We ⟨rfl, hqq⟩
    have hb : Below Wd.heap.size Wd We := by obtain ⟨nn, rfl⟩ := hqq; exact below_drewN Wd nn
    have C2 := Lib.hid (same_any pa qa q pc q qc Q Q We (Pd.out.below hb) (Qd.out.below hb) hq0 hq0)
    have HBe := Lib.hid (HBd.out.trans (hb.mono HBd.out.size))
    have Se := Lib.hid (Sd.out.below hb)
    have Te := Lib.hid (Td.out.below hb)
    clear hqq hb C
    go_wp2_with fail
    refine C2.out.mono ?_
    rintro e Wf ⟨rfl, hqq⟩
    have hb : Below We.heap.size We Wf := by obtain ⟨nn, rfl⟩ := hqq; exact below_drewN We nn
    have C3 := Lib.hid (usame_any sa ta k sc k tc T T Wf (Se.out.below hb) (Te.out.below hb) (by omega) (by omega))
    have HBf := Lib.hid (HBe.out.trans (hb.mono HBe.out.size))
    clear hqq hb C2
    go_wp2_with fail
    refine C3.out.mono ?_
    rintro e Wg ⟨rfl, hb⟩
    have HBg := Lib.hid (HBf.out.trans (hb.mono HBf.out.size))
    clear hb C3
    go_wp2_with fail
    go_ret
    exact ⟨by simp, HBg.out⟩
theorem TagmemEither_walk (W : World) (b : Int) (la : Option Addr) (lc : Nat) (l : List Opr) (hl : RdP W W.heap.size la l) (x y v w : Int) (hx0 : 0 ≤ x) (hx : x < 18446744073709551616) (hy0 : 0 ≤ y) (hy : y < 18446744073709551616) (hv0 : 0 ≤ v) (hv1 : v < 18446744073709551616) (hw0 : 0 ≤ w) (hw1 : w < 18446744073709551616) :
    Calls Try.prog 9 #[.int .i64 b, .slice la l.length lc, .int .u64 x, .int .u64 y, .int .u64 v, .int .u64 w] W fun e W' => e = .returned (.bool true) ∧ Below W.heap.size W W' := by
  obtain ⟨x, rfl⟩ : ∃ a : Nat, x = a := ⟨x.toNat, by omega⟩
  obtain ⟨y, rfl⟩ : ∃ a : Nat, y = a := ⟨y.toNat, by omega⟩
  exact either_walk W b la lc l hl x y (by omega) (by omega) v w hv0 hv1 hw0 hw1
end Go.Proofs.Ytgfkjlknkbdjiaa
