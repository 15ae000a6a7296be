/- LookupFinds: its walk. -/
import Derived.Test.YthammjpadbbflaaLkY
import Derived.Test.YthammjpadbbflaaLkZ
import Derived.Deep.QuietTactic
import Derived.Laws.Cover1
import Derived.Sort.Walk0
namespace Go.Proofs.Ythammjpadbbflaa
set_option linter.unusedVariables false
set_option linter.unusedSimpArgs false
open Go.Joins Go.ChangeShapes Go.WideShapes Go.ChangeAt Go.RowKit Go.Deep Go.Shelf Go.Sort

set_option maxHeartbeats 4000000 in
set_option maxRecDepth 100000 in
theorem LookupFinds_walk (a : Option Addr) (l : List Ob) (c : Nat) (b : Option Addr) (z : List Int) (d : Nat) (name ver : List UInt8) (w : World) (hl : RdL w a l) (hm : l.length ≤ maxLen) (hs : Rd w b z.length (i64s z)) (hz : z.length ≤ maxLen) (hname : name.length < 9223372036854775808) :
    Calls Try.prog 3 #[.slice a l.length c, .slice b z.length d, .string ⟨name.toArray⟩, .string ⟨ver.toArray⟩] w fun e w' => e = .returned (.bool true) ∧ Below w.heap.size w w' := by
  unfold maxLen at hm hz
  have HSH := Lib.hid (fun W (hW : RdL W a l) => short_any a c l W hW (by omega))
  have HRI := Lib.hid (fun W (hW : Rd W b z.length (i64s z)) => right_any b d z l.length W hW (by omega))
  have HL := Lib.hid hl
  have HS := Lib.hid hs
  obtain ⟨sh, hsh⟩ : ∃ r, shortB l = r := ⟨_, rfl⟩
  obtain ⟨ri, hri⟩ : ∃ r, rightB z l.length = r := ⟨_, rfl⟩
  rw [hsh] at HSH
  rw [hri] at HRI
  have HSE := Lib.hid hsh
  have HRE := Lib.hid hri
  obtain ⟨m, hm1⟩ : ∃ m, l.length = m := ⟨_, rfl⟩
  obtain ⟨n, hn1⟩ : ∃ n, z.length = n := ⟨_, rfl⟩
  rw [hm1] at hm HSH HRI HRE ⊢
  rw [hn1] at hz HRI HS ⊢
  have HM := Lib.hid hm1
  have HN := Lib.hid hn1
  clear hl hs hsh hri hm1 hn1
  go_enter Try.func3, Try.ntmps3
  go_wp2_with fail
  refine (awake_any _).mono ?_; rintro e w1 ⟨rfl, hb1⟩
  have B1 := Lib.hid hb1
  clear hb1
  go_wp2_with fail
  refine (HSH.out _ (HL.out.below B1.out)).mono ?_; rintro e w2 ⟨rfl, hb2⟩
  have B1 := Lib.hid (bTrans B1.out hb2)
  clear hb2
  go_wp2_with fail
  refine (HRI.out _ (HS.out.below B1.out)).mono ?_; rintro e w3 ⟨rfl, rfl⟩
  cases sh with
  | false =>
    go_wp2_with fail
    go_ret
    exact ⟨rfl, B1.out⟩
  | true =>
    cases ri with
    | false =>
      go_wp2_with fail
      go_ret
      exact ⟨rfl, B1.out⟩
    | true =>
      obtain ⟨sc, hzs, hsc, h40⟩ := right_nat HRE.out
      subst hzs
      have hnn : sc.length = n := by have := HN.out; simpa using this
      rw [i64s_ord] at HS
      rw [← HM.out] at hsc
      have HFW := Lib.hid (few_of_short HSE.out)
      have HSC := Lib.hid hsc
      have HNN := Lib.hid hnn
      rw [hnn] at h40
      clear hsc hnn HSH HRI
      have hs0 := HS.out
      rw [← HNN.out] at hs0
      have HI1 := fun W (hW : Below w.heap.size w W) => in_any a b c d l sc name ver W (HL.out.below hW) (hs0.below hW) HSC.out HFW.out.1 (by rw [HNN.out]; omega) hname
      have HI2 := fun W (hW : Below w.heap.size w W) => rin_any a b c d l sc name ver W (HL.out.below hW) (hs0.below hW) HSC.out HFW.out.1 (by rw [HNN.out]; omega)
      have HK1 := fun W (hW : Below w.heap.size w W) => known_any a b c d l sc name W (HL.out.below hW) (hs0.below hW) HSC.out HFW.out.1 (by rw [HNN.out]; omega) hname
      have HK2 := fun W (hW : Below w.heap.size w W) (s : List UInt8) => rknown_any a b c d l sc s W (HL.out.below hW) (hs0.below hW) HSC.out HFW.out.1 (by rw [HNN.out]; omega)
      have HA1 := fun W (hW : Below w.heap.size w W) => all_any a b c d l sc W (HL.out.below hW) (hs0.below hW) HSC.out HFW.out.1 (by rw [HNN.out]; omega)
      have hal : (allL l sc).length ≤ 4000 := by
        have h1 := compact_len (sortL (namesL l sc))
        have h2 : (sortL (namesL l sc)).length = (namesL l sc).length := List.length_mergeSort _
        have h3 := namesL_len l HFW.out.1 sc
        have h4 : (allL l sc).length = (Lib.compact (sortL (namesL l sc))).length := rfl
        rw [HNN.out] at h3
        omega
      have hst := allL_strict l sc
      rw [HM.out, HNN.out] at HI1 HI2 HK1 HK2 HA1
      simp only [known_all] at HK1 HK2
      obtain ⟨z, hz⟩ : ∃ z, allL l sc = z := ⟨_, rfl⟩
      rw [hz] at HA1 HK1 hal hst
      simp only [hz] at HK2
      obtain ⟨r1, r2, hr⟩ : ∃ r1 r2, inL l name ver sc = (r1, r2) := ⟨_, _, rfl⟩
      rw [hr] at HI1 HI2
      obtain ⟨cz, hcz⟩ : ∃ cz, z.contains name = cz := ⟨_, rfl⟩
      rw [hcz] at HK1
      have HKN := Lib.hid (fun W (hW : Below w.heap.size w W) => HK2 W hW name)
      rw [hcz] at HKN
      have HCZ := Lib.hid hcz
      clear hcz
      have HI1 := Lib.hid HI1
      have HI2 := Lib.hid HI2
      have HK1 := Lib.hid HK1
      have HK2 := Lib.hid HK2
      have HA1 := Lib.hid HA1
      have HST := Lib.hid hst
      obtain ⟨nz, hnz⟩ : ∃ nz, z.length = nz := ⟨_, rfl⟩
      rw [hnz] at HA1 hal
      have HNZ := Lib.hid hnz
      clear hs0 hr hz hnz hst
      go_wp2_with fail
      refine (HI1.out _ B1.out).mono ?_; rintro e w4 ⟨rfl, hb4⟩
      have B1 := Lib.hid (bTrans B1.out hb4)
      clear hb4
      go_wp2_with fail
      refine (HI2.out _ B1.out).mono ?_; rintro e w5 ⟨rfl, hb4⟩
      have B1 := Lib.hid (bTrans B1.out hb4)
      clear hb4
      go_wp2_with fail
      refine (HK1.out _ B1.out).mono ?_; rintro e w6 ⟨rfl, hb4⟩
      have B1 := Lib.hid (bTrans B1.out hb4)
      clear hb4
      go_wp2_with fail
      refine (HA1.out _ B1.out).mono ?_; rintro e w9 ⟨x1, k1, rfl, hx1, hb9⟩
      have B9 := Lib.hid (bTrans B1.out hb9)
      have HX1 := Lib.hid (Rd.of_own hx1)
      clear hb9 hx1 B1
      go_wp2_with fail
      go_loopw [18, 19] (fun bv iv wr => ∃ (k : Nat) (bq : Bool), bv = .bool bq ∧ iv = .int .i64 k ∧ bq = decide (name ∈ z.take k) ∧ k ≤ nz ∧ Hid (Below w9.heap.size w9 wr)) (fun _ iv _ => nz - (intOf iv).toNat)
      case atStart => exact ⟨0, false, rfl, rfl, by simp, by omega, Lib.hid (Below.refl _ _)⟩
      case round =>
        obtain ⟨k, bq, rfl, rfl, hbq, hk, HB⟩ := hrel
        have HBQ := Lib.hid hbq
        clear hbq
        by_cases hlt : k < nz
        · have hkl : k < z.length := by rw [HNZ.out]; exact hlt
          have hg : (z.map encStr)[k]? = some (encStr z[k]) := by simp [hkl]
          have hrd := HX1.out.below HB.out
          obtain ⟨g1, f1, hg1, hg1l, p0⟩ := hrd.at_ hlt
          subst hg1
          rw [hg] at p0
          have hct : z.contains z[k] = true := List.contains_iff_mem.2 (List.getElem_mem hkl)
          have htk : z.take (k + 1) = z.take k ++ [z[k]] := by rw [List.take_add_one, List.getElem?_eq_getElem hkl]; rfl
          obtain ⟨y, hy⟩ : ∃ y, z[k] = y := ⟨_, rfl⟩
          rw [hy] at p0 hct htk
          have p0 : wr.cell? ⟨g1, f1 + k, none⟩ = some (.string ⟨y.toArray⟩) := p0
          have HKY := Lib.hid (HK2.out wr (bTrans B9.out HB.out) y)
          rw [hct] at HKY
          have HTK := Lib.hid htk
          have hF : bq = false → (y == name) = decide (name ∈ z.take (k + 1)) := fun h => by
            have h1 := HBQ.out
            rw [h] at h1
            have h2 : name ∉ z.take k := by simpa using h1.symm
            rw [Bool.eq_iff_iff, decide_eq_true_eq, HTK.out, List.mem_append, beq_iff_eq, List.mem_singleton]
            exact ⟨fun h => Or.inr h.symm, fun h => h.elim (fun h3 => absurd h3 h2) (fun h3 => h3.symm)⟩
          have hT : bq = true → true = decide (name ∈ z.take (k + 1)) := fun h => by
            have h1 := HBQ.out
            rw [h] at h1
            have h2 : name ∈ z.take k := by simpa using h1.symm
            rw [eq_comm, decide_eq_true_eq, HTK.out, List.mem_append]
            exact Or.inl h2
          have HF := Lib.hid hF
          have HT := Lib.hid hT
          clear hF hT
          have kk0 : (0 : Int) ≤ (k : Int) := by omega
          have kk1 : (k : Int) < (nz : Int) := by omega
          clear hg htk hct HTK HBQ
          go_wp2_with fail
          refine HKY.out.mono ?_; rintro e w10 ⟨rfl, hb10⟩
          have HB10 := Lib.hid (bTrans HB.out hb10)
          have p0 := (hb10.cell (p := ⟨g1, f1 + k, none⟩) hg1l).trans p0
          rcases Nat.eq_zero_or_pos k with hk0 | hkp
          · subst hk0
            rw [Nat.add_zero] at p0
            go_wp2_with fail
            go_quiet (fail)
            have HB10 := Lib.hid (bTrans HB10.out (⟨rfl, rfl, rfl, Nat.le_refl _, fun _ _ => rfl⟩ : Below w10.heap.size w10 (w10.drewN nq)))
            have p0 : (w10.drewN nq).cell? ⟨g1, f1, none⟩ = some (.string ⟨y.toArray⟩) := p0
            obtain ⟨W2, hW2⟩ : ∃ W2, w10.drewN nq = W2 := ⟨_, rfl⟩
            rw [hW2] at p0 HB10
            rw [hW2]
            clear hW2
            cases bq with
            | false =>
              go_wp2_with fail
              go_roundw
              case rel => exact ⟨1, y == name, by simp, by go_num, HF.out rfl, by omega, HB10⟩
              case measure => simp [intOf]; omega
            | true =>
              go_wp2_with fail
              go_roundw
              case rel => exact ⟨1, true, rfl, by go_num, HT.out rfl, by omega, HB10⟩
              case measure => simp [intOf]; omega
          · obtain ⟨j, rfl⟩ : ∃ j, k = j + 1 := ⟨k - 1, by omega⟩
            have hjn : j < nz := by omega
            have hjl : j < z.length := by rw [HNZ.out]; exact hjn
            obtain ⟨g2, f2, hg2, -, q0⟩ := hrd.at_ hjn
            cases hg2
            rw [show (z.map encStr)[j]? = some (encStr z[j]) by simp [hjl]] at q0
            have hord := List.pairwise_iff_getElem.1 HST.out j (j + 1) hjl hkl (by omega)
            rw [hy] at hord
            obtain ⟨v, hv⟩ : ∃ v, z[j] = v := ⟨_, rfl⟩
            rw [hv] at q0 hord
            have q0 : wr.cell? ⟨g1, f1 + j, none⟩ = some (.string ⟨v.toArray⟩) := q0
            have q0 := (hb10.cell (p := ⟨g1, f1 + j, none⟩) hg1l).trans q0
            have hbl : Op.bytesLess v y = true := by
              rw [bytesLess_eq]
              exact decide_eq_true (Decidable.byContradiction fun h => hord.2 (List.le_antisymm hord.1 h))
            have ej2 : IntKind.i64.wrap (j : Int) = (j : Int) := IntWalk.i64_in _ (by omega)
            have ej3 : (0 : Int) ≤ (j : Int) := by omega
            have ej4 : (j : Int) < (nz : Int) := by omega
            have ej5 : (0 : Int) ≤ (j : Int) + 1 := by omega
            have ej6 : (j : Int) + 1 < (nz : Int) := by omega
            clear hord hy hv
            go_wp2_with fail
            go_quiet (fail)
            have HB10 := Lib.hid (bTrans HB10.out (⟨rfl, rfl, rfl, Nat.le_refl _, fun _ _ => rfl⟩ : Below w10.heap.size w10 (w10.drewN nq)))
            have p0 : (w10.drewN nq).cell? ⟨g1, f1 + (j + 1), none⟩ = some (.string ⟨y.toArray⟩) := p0
            obtain ⟨W2, hW2⟩ : ∃ W2, w10.drewN nq = W2 := ⟨_, rfl⟩
            rw [hW2] at p0 HB10
            rw [hW2]
            clear hW2 q0
            cases bq with
            | false =>
              go_wp2_with fail
              go_roundw
              case rel => exact ⟨j + 1 + 1, y == name, by simp, by go_num, HF.out rfl, by omega, HB10⟩
              case measure => simp [intOf]; omega
            | true =>
              go_wp2_with fail
              go_roundw
              case rel => exact ⟨j + 1 + 1, true, rfl, by go_num, HT.out rfl, by omega, HB10⟩
              case measure => simp [intOf]; omega
        · have hkn : k = nz := by omega
          subst hkn
          have hcc : bq = cz := by
            rw [HBQ.out, ← HCZ.out, Bool.eq_iff_iff, decide_eq_true_eq, List.contains_iff_mem, List.take_of_length_le (Nat.le_of_eq HNZ.out)]
          subst hcc
          go_wp2_with fail
          refine (HKN.out _ (bTrans B9.out HB.out)).mono ?_; rintro e w10 ⟨rfl, hb10⟩
          have HB10 := Lib.hid (bTrans HB.out hb10)
          clear hb10
          go_wp2_with fail
          go_ret
          exact ⟨rfl, bTrans B9.out HB10.out⟩
end Go.Proofs.Ythammjpadbbflaa
