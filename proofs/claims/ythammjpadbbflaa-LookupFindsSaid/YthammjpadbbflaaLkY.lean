/- Texts; LookupTwice: its walk. -/
import Derived.Test.YthammjpadbbflaaLkX
import Derived.Test.YthammjpadbbflaaLkS
import Derived.Deep.QuietTactic
namespace Go.Proofs.Ythammjpadbbflaa
set_option linter.unusedVariables false
set_option linter.unusedSimpArgs false
open Go.Joins Go.ChangeShapes Go.WideShapes Go.ChangeAt Go.RowKit Go.Deep Go.Shelf Go.Sort

set_option maxHeartbeats 2000000 in
set_option maxRecDepth 100000 in
theorem texts_same (a b : Option Addr) (n c d : Nat) (x : List (List UInt8)) (w : World) (ha : Rd w a n (x.map encStr)) (hb : Rd w b n (x.map encStr)) (hm : n ≤ 1000000) :
    Calls Try.prog 22 #[.slice a n c, .slice b n d] w fun e w' => e = .returned (.bool true) ∧ Below w.heap.size w w' := by
  have hn : x.length = n := by have := ha.1; simpa using this
  have HA := Lib.hid ha
  have HBB := Lib.hid hb
  have HN := Lib.hid hn
  clear ha hb hn
  go_enter Try.func22, Try.ntmps22
  go_wp2_with fail
  go_loopw [5] (fun i wr => ∃ k : Nat, i = .int .i64 k ∧ k ≤ n ∧ Hid (Below w.heap.size w wr)) (fun i _ => n - (intOf i).toNat)
  case atStart => exact ⟨0, rfl, by omega, Lib.hid (Below.refl _ _)⟩
  case round =>
    obtain ⟨k, rfl, hk, HB⟩ := hrel
    by_cases hlt : k < n
    · have hkl : k < x.length := by rw [HN.out]; exact hlt
      have hg : (x.map encStr)[k]? = some (encStr x[k]) := by simp [hkl]
      obtain ⟨g1, f1, hg1, -, p0⟩ := (HA.out.below HB.out).at_ hlt
      subst hg1
      obtain ⟨g2, f2, hg2, -, q0⟩ := (HBB.out.below HB.out).at_ hlt
      subst hg2
      rw [hg] at p0 q0
      obtain ⟨y, hy⟩ : ∃ y, x[k] = y := ⟨_, rfl⟩
      rw [hy] at p0 q0
      have p0 : wr.cell? ⟨g1, f1 + k, none⟩ = some (.string ⟨y.toArray⟩) := p0
      have q0 : wr.cell? ⟨g2, f2 + k, none⟩ = some (.string ⟨y.toArray⟩) := q0
      have kk0 : (0 : Int) ≤ (k : Int) := by omega
      have kk1 : (k : Int) < (n : Int) := by omega
      clear hkl hy hg
      go_wp2_with fail
      go_quiet (fail)
      go_wp2_with fail
      go_roundw
      case rel => exact ⟨k + 1, by go_num, by omega, Lib.hid (HB.out.trans ⟨rfl, rfl, rfl, Nat.le_refl _, fun _ _ => rfl⟩)⟩
      case measure => simp [intOf]; omega
    · have hkn : k = n := by omega
      subst hkn
      go_wp2_with fail
      go_ret
      exact ⟨rfl, HB.out⟩
theorem inL_twice (l : List Ob) (name ver : List UInt8) (s : List Nat) : inL l name ver (s ++ s) = inL l name ver s := by rw [inL_append]; exact ite_self _
theorem rd_none (W : World) : Rd W none 0 (ordV []) := ⟨rfl, fun h => absurd h (by simp)⟩
theorem namesL_len (l : List Ob) (hf : FewO l) (sc : List Nat) : (namesL l sc).length ≤ 40 * sc.length := by
  induction sc with
  | nil => exact Nat.le_refl _
  | cons k t ih =>
    have h1 := namesO_len (symsAt l k)
    have h2 := (hf.at_ k).1
    show (namesO (symsAt l k) ++ namesL l t).length ≤ _
    rw [List.length_append, List.length_cons]
    omega
set_option maxHeartbeats 4000000 in
set_option maxRecDepth 100000 in
theorem LookupTwice_walk (a : Option Addr) (l : List Ob) (c : Nat) (b : Option Addr) (z : List Int) (d : Nat) (name : List UInt8) (w : World) (hl : RdL w a l) (hm : l.length ≤ maxLen) (hs : Rd w b z.length (i64s z)) (hz : z.length ≤ maxLen) (hname : name.length < 9223372036854775808) :
    Calls Try.prog 7 #[.slice a l.length c, .slice b z.length d, .string ⟨name.toArray⟩] w fun e w' => e = .returned (.bool true) ∧ Below w.heap.size w w' := by
  unfold maxLen at hm hz
  have HSH := Lib.hid (fun W (hW : RdL W a l) => short_any a c l W hW (by omega))
  have HRI := Lib.hid (fun W (hW : Rd W b z.length (i64s z)) => right_any b d z l.length W hW (by omega))
  have HL := Lib.hid hl
  have HS := Lib.hid hs
  obtain ⟨sh, hsh⟩ : ∃ r, shortB l = r := ⟨_, rfl⟩
  obtain ⟨ri, hri⟩ : ∃ r, rightB z l.length = r := ⟨_, rfl⟩
  rw [hsh] at HSH
  rw [hri] at HRI
  have HSE := Lib.hid hsh
  have HRE := Lib.hid hri
  obtain ⟨m, hm1⟩ : ∃ m, l.length = m := ⟨_, rfl⟩
  obtain ⟨n, hn1⟩ : ∃ n, z.length = n := ⟨_, rfl⟩
  rw [hm1] at hm HSH HRI HRE ⊢
  rw [hn1] at hz HRI HS ⊢
  have HM := Lib.hid hm1
  have HN := Lib.hid hn1
  clear hl hs hsh hri hm1 hn1
  go_enter Try.func7, Try.ntmps7
  go_wp2_with fail
  refine (awake_any _).mono ?_; rintro e w1 ⟨rfl, hb1⟩
  have B1 := Lib.hid hb1
  clear hb1
  go_wp2_with fail
  refine (HSH.out _ (HL.out.below B1.out)).mono ?_; rintro e w2 ⟨rfl, hb2⟩
  have B1 := Lib.hid (bTrans B1.out hb2)
  clear hb2
  go_wp2_with fail
  refine (HRI.out _ (HS.out.below B1.out)).mono ?_; rintro e w3 ⟨rfl, rfl⟩
  cases sh with
  | false =>
    go_wp2_with fail
    go_ret
    exact ⟨rfl, B1.out⟩
  | true =>
    cases ri with
    | false =>
      go_wp2_with fail
      go_ret
      exact ⟨rfl, B1.out⟩
    | true =>
      obtain ⟨sc, hzs, hsc, h40⟩ := right_nat HRE.out
      subst hzs
      have hnn : sc.length = n := by have := HN.out; simpa using this
      rw [i64s_ord] at HS
      rw [← HM.out] at hsc
      have HFW := Lib.hid (few_of_short HSE.out)
      have HSC := Lib.hid hsc
      have HNN := Lib.hid hnn
      rw [hnn] at h40
      clear hsc hnn HSH HRI
      rcases (Nat.lt_or_ge 20 n) with h5 | h5
      · have d5 : decide ((20 : Int) < (n : Int)) = true := decide_eq_true (by omega)
        have d5' : (20 : Int) < (n : Int) := by omega
        go_wp2_with fail
        go_ret
        exact ⟨rfl, B1.out⟩
      have d5 : decide ((20 : Int) < (n : Int)) = false := decide_eq_false (by omega)
      have d5' : ¬ (20 : Int) < (n : Int) := by omega
      have hs0 := HS.out
      rw [← HNN.out] at hs0
      have hcc : ∀ k ∈ sc ++ sc, k < l.length := fun k hk => by
        rcases List.mem_append.1 hk with hk | hk
        · exact HSC.out k hk
        · exact HSC.out k hk
      have HI1 := fun W (hW : Below w.heap.size w W) => in_any a b c d l sc name [] W (HL.out.below hW) (hs0.below hW) HSC.out HFW.out.1 (by rw [HNN.out]; omega) hname
      have HI2 := fun W (hW : Below w.heap.size w W) b2 d2 (hb : Rd W b2 (sc ++ sc).length (ordV (sc ++ sc))) => in_any a b2 c d2 l (sc ++ sc) name [] W (HL.out.below hW) hb hcc HFW.out.1 (by rw [List.length_append, HNN.out]; omega) hname
      have HI3 := fun W (hW : Below w.heap.size w W) => in_any a none c 0 l [] name [] W (HL.out.below hW) (rd_none W) (fun k hk => by simp at hk) HFW.out.1 (by simp) hname
      have HA1 := fun W (hW : Below w.heap.size w W) => all_any a b c d l sc W (HL.out.below hW) (hs0.below hW) HSC.out HFW.out.1 (by rw [HNN.out]; omega)
      have HA2 := fun W (hW : Below w.heap.size w W) b2 d2 (hb : Rd W b2 (sc ++ sc).length (ordV (sc ++ sc))) => all_any a b2 c d2 l (sc ++ sc) W (HL.out.below hW) hb hcc HFW.out.1 (by rw [List.length_append, HNN.out]; omega)
      have HA3 := fun W (hW : Below w.heap.size w W) => all_any a none c 0 l [] W (HL.out.below hW) (rd_none W) (fun k hk => by simp at hk) HFW.out.1 (by simp)
      have hal : (allL l sc).length ≤ 1000 := by
        have h1 := compact_len (sortL (namesL l sc))
        have h2 : (sortL (namesL l sc)).length = (namesL l sc).length := List.length_mergeSort _
        have h3 := namesL_len l HFW.out.1 sc
        have h4 : (allL l sc).length = (Lib.compact (sortL (namesL l sc))).length := rfl
        rw [HNN.out] at h3
        omega
      rw [HM.out, HNN.out] at HI1 HA1
      rw [inL_twice, HM.out, List.length_append, HNN.out] at HI2
      rw [allL_twice, HM.out, List.length_append, HNN.out] at HA2
      rw [HM.out] at HI3 HA3
      rw [allL_nil] at HA3
      obtain ⟨z, hz⟩ : ∃ z, allL l sc = z := ⟨_, rfl⟩
      rw [hz] at HA1 HA2 hal
      obtain ⟨r1, r2, hr⟩ : ∃ r1 r2, inL l name [] sc = (r1, r2) := ⟨_, _, rfl⟩
      rw [hr] at HI1 HI2
      have HI1 := Lib.hid HI1
      have HI2 := Lib.hid HI2
      have HI3 := Lib.hid HI3
      have HA1 := Lib.hid HA1
      have HA2 := Lib.hid HA2
      have HA3 := Lib.hid HA3
      obtain ⟨nz, hnz⟩ : ∃ nz, z.length = nz := ⟨_, rfl⟩
      rw [hnz] at HA1 HA2 hal
      clear hs0 hr hcc hz hnz
      go_wp2_with fail
      refine (HI1.out _ B1.out).mono ?_; rintro e w4 ⟨rfl, hb4⟩
      have B1 := Lib.hid (bTrans B1.out hb4)
      clear hb4
      have hsv := HS.out.below B1.out
      rw [← i64s_ord] at hsv
      have HSV := Lib.hid hsv
      clear hsv
      go_wp2_with (first
        | (at_builtin; refine wpList_app0 _ rfl _ _ rfl w4.heap.size w4.heap.size rfl (own_empty w4 3) b n d (sc.map (fun (k : Nat) => (k : Int))) rfl (HSV.out.alloc _) (by omega) (by simp) ?_; intro a5 c5 w5 hown5 hb5 hat5; have HO5 := Lib.hid hown5; have HB5 := Lib.hid hb5; clear hown5 hb5 hat5)
        | (at_builtin; refine wpList_app _ rfl _ _ rfl w4.heap.size (.slice a5 n c5) n (sc.map (fun (k : Nat) => (k : Int))) rfl HO5.out b n d (sc.map (fun (k : Nat) => (k : Int))) rfl ((HSV.out.alloc _).below HB5.out) (by omega) (by have := HB5.out.size; simp at this ⊢; omega) ?_; intro a6 c6 w6 hown6 hgrow6 hat6; have HO6 := Lib.hid hown6; have HG6 := Lib.hid hgrow6; clear hown6 hgrow6 hat6))
      have hz5 := HB5.out.size
      have hsv : True := trivial
      have B6 := Lib.hid (grownB (bTrans B1.out (bTrans (bAlloc (Below.refl w4.heap.size w4) (.cells #[] 3)) HB5.out)) HG6.out (fun q hq => by have := (HO5.out.lt q hq).1; have := B1.out.size; omega))
      have r6 := Rd.of_own HO6.out
      have e6 : i64s (sc.map (fun (k : Nat) => (k : Int)) ++ sc.map (fun (k : Nat) => (k : Int))) = ordV (sc ++ sc) := by rw [show i64s (sc.map (fun (k : Nat) => (k : Int)) ++ sc.map (fun (k : Nat) => (k : Int))) = i64s (sc.map (fun (k : Nat) => (k : Int))) ++ i64s (sc.map (fun (k : Nat) => (k : Int))) by simp [i64s], i64s_ord]; simp [ordV]
      rw [e6] at r6
      have HR6 := Lib.hid (HI2.out _ B6.out a6 c6 r6)
      clear r6 e6 hz5 hsv
      refine HR6.out.mono ?_; rintro e w7 ⟨rfl, hb7⟩
      have B7 := Lib.hid (bTrans B6.out hb7)
      clear hb7 HR6 HO5 HB5 HO6 HG6 HSV
      go_wp2_with fail
      refine (HI3.out _ B7.out).mono ?_; rintro e w8 ⟨rfl, hb8⟩
      have B8 := Lib.hid (bTrans B7.out hb8)
      clear hb8
      go_wp2_with fail
      refine (HA1.out _ B8.out).mono ?_; rintro e w9 ⟨x1, k1, rfl, hx1, hb9⟩
      have B1 := Lib.hid (bTrans B8.out hb9)
      have HX1 := Lib.hid (Rd.of_own hx1)
      clear hb9 hx1
      have hsv := HS.out.below B1.out
      rw [← i64s_ord] at hsv
      have HSV := Lib.hid hsv
      clear hsv
      go_wp2_with (first
        | (at_builtin; refine wpList_app0 _ rfl _ _ rfl w9.heap.size w9.heap.size rfl (own_empty w9 3) b n d (sc.map (fun (k : Nat) => (k : Int))) rfl (HSV.out.alloc _) (by omega) (by simp) ?_; intro a5 c5 w5 hown5 hb5 hat5; have HO5 := Lib.hid hown5; have HB5 := Lib.hid hb5; clear hown5 hb5 hat5)
        | (at_builtin; refine wpList_app _ rfl _ _ rfl w9.heap.size (.slice a5 n c5) n (sc.map (fun (k : Nat) => (k : Int))) rfl HO5.out b n d (sc.map (fun (k : Nat) => (k : Int))) rfl ((HSV.out.alloc _).below HB5.out) (by omega) (by have := HB5.out.size; simp at this ⊢; omega) ?_; intro a6 c6 w6 hown6 hgrow6 hat6; have HO6 := Lib.hid hown6; have HG6 := Lib.hid hgrow6; clear hown6 hgrow6 hat6))
      have hz5 := HB5.out.size
      have hsv : True := trivial
      have B6 := Lib.hid (grownB (bTrans B1.out (bTrans (bAlloc (Below.refl w9.heap.size w9) (.cells #[] 3)) HB5.out)) HG6.out (fun q hq => by have := (HO5.out.lt q hq).1; have := B1.out.size; omega))
      have r6 := Rd.of_own HO6.out
      have e6 : i64s (sc.map (fun (k : Nat) => (k : Int)) ++ sc.map (fun (k : Nat) => (k : Int))) = ordV (sc ++ sc) := by rw [show i64s (sc.map (fun (k : Nat) => (k : Int)) ++ sc.map (fun (k : Nat) => (k : Int))) = i64s (sc.map (fun (k : Nat) => (k : Int))) ++ i64s (sc.map (fun (k : Nat) => (k : Int))) by simp [i64s], i64s_ord]; simp [ordV]
      rw [e6] at r6
      have hb96 := grownB (bTrans (bAlloc (Below.refl w9.heap.size w9) (.cells #[] 3)) HB5.out) HG6.out (fun q hq => (HO5.out.lt q hq).1)
      have HX1 := Lib.hid (HX1.out.below hb96)
      have HR6 := Lib.hid (HA2.out _ B6.out a6 c6 r6)
      clear r6 e6 hz5 hb96 hsv
      refine HR6.out.mono ?_; rintro e w7' ⟨x2, k2, rfl, hx2, hb7⟩
      have B7 := Lib.hid (bTrans B6.out hb7)
      have HX1 := Lib.hid (HX1.out.below hb7)
      have HX2 := Lib.hid (Rd.of_own hx2)
      clear hb7 HR6 HO5 HB5 HO6 HG6 HSV hx2
      go_wp2_with fail
      refine (HA3.out _ B7.out).mono ?_; rintro e w10 ⟨x3, k3, rfl, -, hb10⟩
      have B10 := Lib.hid (bTrans B7.out hb10)
      have HX1 := Lib.hid (HX1.out.below hb10)
      have HX2 := Lib.hid (HX2.out.below hb10)
      clear hb10
      go_wp2_with fail
      refine (texts_same x1 x2 nz k1 k2 z _ HX1.out HX2.out (by omega)).mono ?_; rintro e w11 ⟨rfl, hb11⟩
      have B11 := Lib.hid (bTrans B10.out hb11)
      clear hb11
      go_wp2_with fail
      go_ret
      exact ⟨rfl, B11.out⟩
end Go.Proofs.Ythammjpadbbflaa
