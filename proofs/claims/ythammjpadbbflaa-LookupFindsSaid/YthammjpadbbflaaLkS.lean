/- LookupMore: its walk. -/
import Derived.Test.YthammjpadbbflaaLkQ
import Derived.Test.YthammjpadbbflaaLkU
namespace Go.Proofs.Ythammjpadbbflaa
set_option linter.unusedVariables false
set_option linter.unusedSimpArgs false
open Go.Joins Go.ChangeShapes Go.WideShapes Go.ChangeAt Go.RowKit Go.Deep Go.Shelf

theorem inL_append (l : List Ob) (name ver : List UInt8) (s t : List Nat) : inL l name ver (s ++ t) = if 0 ≤ (inL l name ver s).1 then inL l name ver s else inL l name ver t := by
  induction s with
  | nil => rfl
  | cons k r ih =>
    have e1 : inL l name ver (k :: r ++ t) = if 0 ≤ findZ (symsAt l k) name ver 0 then ((k : Int), findZ (symsAt l k) name ver 0) else inL l name ver (r ++ t) := rfl
    have e2 : inL l name ver (k :: r) = if 0 ≤ findZ (symsAt l k) name ver 0 then ((k : Int), findZ (symsAt l k) name ver 0) else inL l name ver r := rfl
    rw [e1, e2]
    by_cases h : 0 ≤ findZ (symsAt l k) name ver 0
    · rw [if_pos h, if_pos h]
      exact (if_pos (by show (0 : Int) ≤ (k : Int); omega)).symm
    · rw [if_neg h, if_neg h]
      exact ih
theorem inL_pair (l : List Ob) (name ver : List UInt8) (s : List Nat) : (0 ≤ (inL l name ver s).1 ∧ 0 ≤ (inL l name ver s).2) ∨ inL l name ver s = (-1, -1) := by
  induction s with
  | nil => exact Or.inr rfl
  | cons k r ih =>
    unfold inL
    by_cases h : 0 ≤ findZ (symsAt l k) name ver 0
    · rw [if_pos h]; exact Or.inl ⟨by show (0 : Int) ≤ (k : Int); omega, h⟩
    · rw [if_neg h]; exact ih
set_option maxHeartbeats 4000000 in
set_option maxRecDepth 100000 in
theorem LookupMore_walk (a : Option Addr) (l : List Ob) (c : Nat) (b : Option Addr) (z : List Int) (d : Nat) (more : Int) (name ver : List UInt8) (w : World) (hl : RdL w a l) (hm : l.length ≤ maxLen) (hs : Rd w b z.length (i64s z)) (hz : z.length ≤ maxLen) (hname : name.length < 9223372036854775808) :
    Calls Try.prog 5 #[.slice a l.length c, .slice b z.length d, .int .i64 more, .string ⟨name.toArray⟩, .string ⟨ver.toArray⟩] w fun e w' => e = .returned (.bool true) ∧ Below w.heap.size w w' := by
  unfold maxLen at hm hz
  have HSH := Lib.hid (fun W (hW : RdL W a l) => short_any a c l W hW (by omega))
  have HRI := Lib.hid (fun W (hW : Rd W b z.length (i64s z)) => right_any b d z l.length W hW (by omega))
  have HL := Lib.hid hl
  have HS := Lib.hid hs
  obtain ⟨sh, hsh⟩ : ∃ r, shortB l = r := ⟨_, rfl⟩
  obtain ⟨ri, hri⟩ : ∃ r, rightB z l.length = r := ⟨_, rfl⟩
  rw [hsh] at HSH
  rw [hri] at HRI
  have HSE := Lib.hid hsh
  have HRE := Lib.hid hri
  obtain ⟨m, hm1⟩ : ∃ m, l.length = m := ⟨_, rfl⟩
  obtain ⟨n, hn1⟩ : ∃ n, z.length = n := ⟨_, rfl⟩
  rw [hm1] at hm HSH HRI HRE ⊢
  rw [hn1] at hz HRI HS ⊢
  have HM := Lib.hid hm1
  have HN := Lib.hid hn1
  clear hl hs hsh hri hm1 hn1
  go_enter Try.func5, Try.ntmps5
  go_wp2_with fail
  refine (awake_any _).mono ?_; rintro e w1 ⟨rfl, hb1⟩
  have B1 := Lib.hid hb1
  clear hb1
  go_wp2_with fail
  refine (HSH.out _ (HL.out.below B1.out)).mono ?_; rintro e w2 ⟨rfl, hb2⟩
  have B1 := Lib.hid (bTrans B1.out hb2)
  clear hb2
  go_wp2_with fail
  refine (HRI.out _ (HS.out.below B1.out)).mono ?_; rintro e w3 ⟨rfl, rfl⟩
  cases sh with
  | false =>
    go_wp2_with fail
    go_ret
    exact ⟨rfl, B1.out⟩
  | true =>
    cases ri with
    | false =>
      go_wp2_with fail
      go_ret
      exact ⟨rfl, B1.out⟩
    | true =>
      obtain ⟨sc, hzs, hsc, h40⟩ := right_nat HRE.out
      subst hzs
      have hnn : sc.length = n := by have := HN.out; simpa using this
      rw [i64s_ord] at HS
      rw [← HM.out] at hsc
      have HFW := Lib.hid (few_of_short HSE.out)
      have HSC := Lib.hid hsc
      have HNN := Lib.hid hnn
      rw [hnn] at h40
      clear hsc hnn HSH HRI
      rcases Int.lt_or_le more 0 with h1 | h1
      · have d1 : decide (more < 0) = true := decide_eq_true h1
        clear h1
        go_wp2_with fail
        go_ret
        exact ⟨rfl, B1.out⟩
      obtain ⟨o, rfl⟩ := Int.eq_ofNat_of_zero_le h1
      have d1 : decide ((o : Int) < 0) = false := decide_eq_false (by omega)
      rcases (Nat.lt_or_ge o m).symm with h2 | h2
      · have d2 : decide ((m : Int) ≤ (o : Int)) = true := decide_eq_true (by omega)
        have d2' : (m : Int) ≤ (o : Int) := by omega
        clear h1
        go_wp2_with fail
        go_ret
        exact ⟨rfl, B1.out⟩
      have d2 : decide ((m : Int) ≤ (o : Int)) = false := decide_eq_false (by omega)
      have d2' : ¬ (m : Int) ≤ (o : Int) := by omega
      rcases (Nat.lt_or_ge 39 n).symm.symm with h5 | h5
      · have d5 : decide ((39 : Int) < (n : Int)) = true := decide_eq_true (by omega)
        have d5' : (39 : Int) < (n : Int) := by omega
        clear h1
        go_wp2_with fail
        go_ret
        exact ⟨rfl, B1.out⟩
      have d5 : decide ((39 : Int) < (n : Int)) = false := decide_eq_false (by omega)
      have d5' : ¬ (39 : Int) < (n : Int) := by omega
      have hs0 := HS.out
      rw [← HNN.out] at hs0
      have hol : o < l.length := by rw [HM.out]; exact h2
      have HI1 := fun W (hW : Below w.heap.size w W) => in_any a b c d l sc name ver W (HL.out.below hW) (hs0.below hW) HSC.out HFW.out.1 (by rw [HNN.out]; omega) hname
      have HI2 := Lib.hid (fun W (hW : Below w.heap.size w W) b2 d2 (hb : Rd W b2 (sc ++ [o]).length (ordV (sc ++ [o]))) => in_any a b2 c d2 l (sc ++ [o]) name ver W (HL.out.below hW) hb (fun k hk => by
        rcases List.mem_append.1 hk with hk | hk
        · exact HSC.out k hk
        · simp at hk; omega) HFW.out.1 (by simp; have := HNN.out; omega) hname)
      have HI3 := Lib.hid (fun W (hW : Below w.heap.size w W) b2 d2 (hb : Rd W b2 [o].length (ordV [o])) => in_any a b2 c d2 l [o] name ver W (HL.out.below hW) hb (fun k hk => by simp at hk; omega) HFW.out.1 (by simp) hname)
      have hap := inL_append l name ver sc [o]
      obtain ⟨r1, r2, hr⟩ : ∃ r1 r2, inL l name ver sc = (r1, r2) := ⟨_, _, rfl⟩
      obtain ⟨r3, r4, hr2⟩ : ∃ r1 r2, inL l name ver [o] = (r1, r2) := ⟨_, _, rfl⟩
      obtain ⟨r5, r6, hr3⟩ : ∃ r1 r2, inL l name ver (sc ++ [o]) = (r1, r2) := ⟨_, _, rfl⟩
      have hin := inL_pair l name ver sc
      rw [hr] at hin
      rw [hr, hr2, hr3] at hap
      rw [hr, HM.out, HNN.out] at HI1
      rw [hr3, HM.out, List.length_append, HNN.out] at HI2
      rw [hr2, HM.out] at HI3
      have HI1 := Lib.hid HI1
      clear hs0 hr hr2 hr3 h1
      go_wp2_with fail
      refine (HI1.out _ B1.out).mono ?_; rintro e w4 ⟨rfl, hb4⟩
      have B1 := Lib.hid (bTrans B1.out hb4)
      clear hb4
      have hsv := HS.out.below B1.out
      rw [← i64s_ord] at hsv
      have HSV := Lib.hid hsv
      clear hsv
      go_wp2_with (first
        | (at_builtin; refine wpList_app0 _ rfl _ _ rfl w4.heap.size w4.heap.size rfl (own_empty w4 3) b n d (sc.map (fun (k : Nat) => (k : Int))) rfl (HSV.out.alloc _) (by omega) (by simp) ?_; intro a5 c5 w5 hown5 hb5 hat5; have HO5 := Lib.hid hown5; have HB5 := Lib.hid hb5; clear hown5 hb5 hat5)
        | (at_builtin; refine wpList_app _ rfl _ _ rfl w4.heap.size (.slice a5 n c5) n (sc.map (fun (k : Nat) => (k : Int))) rfl (HO5.out.alloc _) _ 1 1 [(o : Int)] rfl (rd_one _ (o : Int) 3) (by omega) (by have := HB5.out.size; simp at this ⊢; omega) ?_; intro a6 c6 w6 hown6 hgrow6 hat6; have HO6 := Lib.hid hown6; have HG6 := Lib.hid hgrow6; clear hown6 hgrow6 hat6))
      have hz5 := HB5.out.size
      have B6 := Lib.hid (grownB (bAlloc (bTrans B1.out (bTrans (bAlloc (Below.refl w4.heap.size w4) (.cells #[] 3)) HB5.out)) (.cells #[.int .i64 (o : Int)] 3)) HG6.out (fun q hq => by have := (HO5.out.lt q hq).1; have := B1.out.size; omega))
      have r6 := Rd.of_own HO6.out
      have e6 : i64s (sc.map (fun (k : Nat) => (k : Int)) ++ [(o : Int)]) = ordV (sc ++ [o]) := by simp [i64s, ordV]
      rw [e6] at r6
      have HR6 := Lib.hid (HI2.out _ B6.out a6 c6 r6)
      clear r6 e6 hz5
      refine HR6.out.mono ?_; rintro e w7 ⟨rfl, hb7⟩
      have B7 := Lib.hid (bTrans B6.out hb7)
      have HI3' := Lib.hid (HI3.out _ (bAlloc B7.out (.cells #[.int .i64 (o : Int)] 3)) (some ⟨w7.heap.size, 0, none⟩) 1 (by
        have := rd_one w7 (o : Int) 3
        exact this))
      clear hb7 HR6 HO5 HB5 HO6 HG6 HI1 HI2 HI3
      go_wp2_with fail
      refine HI3'.out.mono ?_; rintro e w8 ⟨rfl, hb8⟩
      have B8 := Lib.hid (bTrans (bAlloc B7.out (.cells #[.int .i64 (o : Int)] 3)) hb8)
      clear hb8 HI3'
      by_cases hr0 : 0 ≤ r1
      · have hrd : decide (0 ≤ r1) = true := decide_eq_true hr0
        rw [if_pos hr0] at hap
        obtain ⟨q1, q2⟩ := Prod.mk.inj hap
        have e1 : (r1 == r5) = true := by rw [q1]; exact beq_self_eq_true _
        have e2 : (r2 == r6) = true := by rw [q2]; exact beq_self_eq_true _
        clear hap hin q1 q2
        go_wp2_with fail
        go_ret
        exact ⟨rfl, B8.out⟩
      · have hrd : decide (0 ≤ r1) = false := decide_eq_false hr0
        rw [if_neg hr0] at hap
        obtain ⟨q1, q2⟩ := Prod.mk.inj hap
        have hq : r2 = -1 := by
          rcases hin with ⟨h, -⟩ | h
          · exact absurd h hr0
          · exact (Prod.mk.inj h).2
        have e0 : (r2 == -1) = true := by rw [hq]; rfl
        have e1 : (r5 == r3) = true := by rw [q1]; exact beq_self_eq_true _
        have e2 : (r6 == r4) = true := by rw [q2]; exact beq_self_eq_true _
        clear hap hin q1 q2 hq
        go_wp2_with fail
        go_ret
        exact ⟨rfl, B8.out⟩
end Go.Proofs.Ythammjpadbbflaa
