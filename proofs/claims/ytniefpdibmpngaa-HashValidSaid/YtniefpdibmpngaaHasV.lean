/- HashValid: its walk. -/
import Derived.Test.YtniefpdibmpngaaHasU
namespace Go.Proofs.Ytniefpdibmpngaa
set_option linter.unusedVariables false
set_option linter.unusedSimpArgs false
open Go.Joins Go.ChangeShapes Go.WideShapes Go.ChangeAt Go.RowKit Go.Deep

set_option maxRecDepth 100000 in
set_option maxHeartbeats 8000000 in
theorem HashValid_walk (a : Option Addr) (l : List Sym) (c : Nat) (n at_ tv : Int) (w : World) (hl : RdS w a l) (hnm : ∀ s ∈ l, s.name.length < 9223372036854775808) (hm : l.length ≤ 9223372036854775807) :
    Calls Try.prog 6 #[.slice a l.length c, .int .i64 n, .int .i64 at_, .int .i64 tv] w fun e w' => e = .returned (.bool true) ∧ Below w.heap.size w w' := by
  by_cases hbad : n < 1 ∨ 64 < n ∨ 40 < l.length
  · have HNO := Lib.hid (fun w => make_no a l.length c n hbad w)
    have HBAD := Lib.hid hbad
    clear hl hnm
    generalize hlm : l.length = m at *
    clear hlm
    clear hbad
    go_enter Try.func6, Try.ntmps6
    go_wp2_with fail
    refine (awake_any _).mono ?_; rintro e w1 ⟨rfl, hb⟩
    have HB := Lib.hid hb
    clear hb
    go_wp2_with fail
    refine (HNO.out _).mono ?_; rintro e w2 ⟨rfl, hb2⟩
    have HB2 := Lib.hid (bTrans HB.out hb2)
    clear hb2
    go_wp2_with fail
    go_ret
    exact ⟨ret_bool (by simp), bAlloc HB2.out _⟩
  · obtain ⟨n, rfl⟩ := Int.eq_ofNat_of_zero_le (show 0 ≤ n by omega)
    have h1 : 1 ≤ n := by omega
    have h2 : n ≤ 64 := by omega
    have h3 : l.length ≤ 40 := by omega
    have HMK := Lib.hid (fun W (hW : RdS W a l) => make_any a l c n h1 h2 h3 W hW hnm)
    have HV := Lib.hid (fun ab ac cb cc k bz cz W (hW : RdS W a l) hb hch hk => valid_any ab ac a l cb cc c n k bz cz W hW h3 hnm h1 h2 hb hch hk)
    have HL := Lib.hid hl
    have hlb := bucketsZ_len l n n
    have hlc := chainZ_len l n l.length
    clear hl hnm hbad hm
    generalize hlm : l.length = m at *
    have HLM := Lib.hid hlm
    clear hlm
    obtain ⟨bz, hbz⟩ : ∃ bz, bucketsZ l n n = bz := ⟨_, rfl⟩
    obtain ⟨cz, hcz⟩ : ∃ cz, chainZ l n m = cz := ⟨_, rfl⟩
    rw [hbz] at hlb HV
    rw [hcz] at hlc HV
    have HBZ := Lib.hid hbz
    have HCZ := Lib.hid hcz
    have HLB := Lib.hid hlb
    have HLC := Lib.hid hlc
    clear hbz hcz hlb hlc
    go_enter Try.func6, Try.ntmps6
    go_wp2_with fail
    refine (awake_any _).mono ?_; rintro e w1 ⟨rfl, hb⟩
    have HB := Lib.hid hb
    clear hb
    go_wp2_with fail
    refine (HMK.out _ (HL.out.below HB.out)).mono ?_; rintro e w2 ⟨B, C, rfl, hB, hC, hBl, hCl, hb2⟩
    rw [HLM.out] at hC ⊢
    rw [HBZ.out] at hB
    rw [HCZ.out] at hC
    obtain ⟨bx, hbx⟩ : ∃ bx, w2.heap.size = bx := ⟨_, rfl⟩
    have hx0 : (w2.alloc (.cells #[.slice (some ⟨B, 0, none⟩) n n, .slice (some ⟨C, 0, none⟩) m m] 33)).cell? ⟨bx, 0, none⟩ = some (.slice (some ⟨B, 0, none⟩) n n) := by subst hbx; exact (boxed (Below.refl _ _) 0).trans rfl
    have hx1 : (w2.alloc (.cells #[.slice (some ⟨B, 0, none⟩) n n, .slice (some ⟨C, 0, none⟩) m m] 33)).cell? ⟨bx, 1, none⟩ = some (.slice (some ⟨C, 0, none⟩) m m) := by subst hbx; exact (boxed (Below.refl _ _) 1).trans rfl
    have HR1 := Lib.hid (hB.alloc (.cells #[.slice (some ⟨B, 0, none⟩) n n, .slice (some ⟨C, 0, none⟩) m m] 33))
    have HR2 := Lib.hid (hC.alloc (.cells #[.slice (some ⟨B, 0, none⟩) n n, .slice (some ⟨C, 0, none⟩) m m] 33))
    have HB2 := Lib.hid (bAlloc (bTrans HB.out hb2) (.cells #[.slice (some ⟨B, 0, none⟩) n n, .slice (some ⟨C, 0, none⟩) m m] 33))
    clear hb2 hB hC hBl hCl
    go_wp2_with fail
    clear hbx
    generalize w2.alloc (.cells #[.slice (some ⟨B, 0, none⟩) n n, .slice (some ⟨C, 0, none⟩) m m] 33) = W at *
    have X := Lib.hid (And.intro hx0 hx1)
    have hbl := heap_lt_of_cell hx0
    have HK := Lib.hid (fun (W' : World) (h : Below W.heap.size W W') => And.intro ((h.cell (p := ⟨bx, 0, none⟩) hbl).trans hx0) ((h.cell (p := ⟨bx, 1, none⟩) hbl).trans hx1))
    have HW := Lib.hid (Below.refl W.heap.size W)
    have HN := HW
    clear hx0 hx1 hbl
    refine region_join (CopyC W n m bz cz) ?_ ?_
    · go_region_held3 (fun W' => W'.cell? ⟨bx, 0, none⟩ = some (.slice (some ⟨B, 0, none⟩) n n) ∧ W'.cell? ⟨bx, 1, none⟩ = some (.slice (some ⟨C, 0, none⟩) m m))
        (first | exact X.out | exact HK.out _ (by first | ((repeat (first | exact HN.out | exact HW.out | with_reducible refine Below.drew ?_ | with_reducible refine bAlloc ?_ _ | (with_reducible refine Below.setCell ?_ (by first | exact Nat.le_refl _ | (simp; done) | (simp; omega) | (show W.heap.size ≤ _; omega)) _))); done) | fail) | go_keep)
        (first
          | ((refine step_app0 _ (by rfl) _ _ (by rfl) _ (by rfl) (some ⟨B, 0, none⟩) n n bz (by rfl) (HR1.out.below (by first | ((repeat (first | exact HN.out | exact HW.out | with_reducible refine Below.drew ?_ | with_reducible refine bAlloc ?_ _)); done) | fail)) (by omega) ?_); intro a6 c6 w6 hrow6 hb6; have PB := Lib.hid (hrow6.mono (B' := W.heap.size) (Below.size (B := W.heap.size) (by first | ((repeat (first | exact HN.out | exact HW.out | with_reducible refine Below.drew ?_ | with_reducible refine bAlloc ?_ _)); done) | fail))); have HN := Lib.hid (bTrans (w := W) (by first | ((repeat (first | exact HN.out | exact HW.out | with_reducible refine Below.drew ?_ | with_reducible refine bAlloc ?_ _)); done) | fail) hb6); (try (have pa0 : (∀ j, w6.cell? ⟨W.heap.size, j, none⟩ = #[Value.slice none 0 0, Value.slice none 0 0][j]?) ∧ (∀ j, w6.frozen? ⟨W.heap.size, j, none⟩ = false) ∧ W.heap.size < w6.heap.size := (by first | exact third_new (t := 33) (bTrans (by first | ((repeat (first | exact Below.refl _ _ | with_reducible refine Below.drew ?_ | with_reducible refine bAlloc ?_ _)); done) | fail) hb6) (by first | rfl | (simp only [size_alloc, sz_drew]; done) | fail) | fail); have la0 := pa0.2.2; have ea0 : w6.cell? ⟨W.heap.size, 0, none⟩ = some (.slice none 0 0) := (pa0.1 0).trans rfl; have da0 : w6.cell? ⟨W.heap.size, 1, none⟩ = some (.slice none 0 0) := (pa0.1 1).trans rfl; have fa0 := pa0.2.1 0; have ka0 := pa0.2.1 1; clear pa0)); (try (have pa1 : (∀ j, w6.cell? ⟨W.heap.size + 1, j, none⟩ = #[Value.slice none 0 0, Value.slice none 0 0][j]?) ∧ (∀ j, w6.frozen? ⟨W.heap.size + 1, j, none⟩ = false) ∧ W.heap.size + 1 < w6.heap.size := (by first | exact third_new (t := 33) (bTrans (by first | ((repeat (first | exact Below.refl _ _ | with_reducible refine Below.drew ?_ | with_reducible refine bAlloc ?_ _)); done) | fail) hb6) (by first | rfl | (simp only [size_alloc, sz_drew]; done) | fail) | fail); have la1 := pa1.2.2; have ea1 : w6.cell? ⟨W.heap.size + 1, 0, none⟩ = some (.slice none 0 0) := (pa1.1 0).trans rfl; have da1 : w6.cell? ⟨W.heap.size + 1, 1, none⟩ = some (.slice none 0 0) := (pa1.1 1).trans rfl; have fa1 := pa1.2.1 0; have ka1 := pa1.2.1 1; clear pa1)); (try (have pa2 : (∀ j, w6.cell? ⟨W.heap.size + 1 + 1, j, none⟩ = #[Value.slice none 0 0, Value.slice none 0 0][j]?) ∧ (∀ j, w6.frozen? ⟨W.heap.size + 1 + 1, j, none⟩ = false) ∧ W.heap.size + 1 + 1 < w6.heap.size := (by first | exact third_new (t := 33) (bTrans (by first | ((repeat (first | exact Below.refl _ _ | with_reducible refine Below.drew ?_ | with_reducible refine bAlloc ?_ _)); done) | fail) hb6) (by first | rfl | (simp only [size_alloc, sz_drew]; done) | fail) | fail); have la2 := pa2.2.2; have ea2 : w6.cell? ⟨W.heap.size + 1 + 1, 0, none⟩ = some (.slice none 0 0) := (pa2.1 0).trans rfl; have da2 : w6.cell? ⟨W.heap.size + 1 + 1, 1, none⟩ = some (.slice none 0 0) := (pa2.1 1).trans rfl; have fa2 := pa2.2.1 0; have ka2 := pa2.2.1 1; clear pa2)); have hs6 := HN.out.size; clear hrow6 hb6)
          | ((refine step_app0 _ (by rfl) _ _ (by rfl) _ (by rfl) (some ⟨C, 0, none⟩) m m cz (by rfl) (HR2.out.below (by first | ((repeat (first | exact HN.out | exact HW.out | with_reducible refine Below.drew ?_ | with_reducible refine bAlloc ?_ _)); done) | fail)) (by omega) ?_); intro a7 c7 w7 hrow7 hb7; have HA := Lib.hid (PB.out.apart (by first | ((repeat (first | exact Below.refl _ _ | with_reducible refine Below.drew ?_ | with_reducible refine bAlloc ?_ _)); done) | fail) hrow7); have PB := Lib.hid ((PB.out.below (by first | ((repeat (first | exact Below.refl _ _ | with_reducible refine Below.drew ?_ | with_reducible refine bAlloc ?_ _)); done) | fail)).below hb7); have PC := Lib.hid (hrow7.mono (B' := W.heap.size) (Below.size (B := W.heap.size) (by first | ((repeat (first | exact HN.out | exact HW.out | with_reducible refine Below.drew ?_ | with_reducible refine bAlloc ?_ _)); done) | fail))); have HN := Lib.hid (bTrans (w := W) (by first | ((repeat (first | exact HN.out | exact HW.out | with_reducible refine Below.drew ?_ | with_reducible refine bAlloc ?_ _)); done) | fail) hb7); have HL7 := bTrans (w := w6) (by first | ((repeat (first | exact Below.refl _ _ | with_reducible refine Below.drew ?_ | with_reducible refine bAlloc ?_ _)); done) | fail) hb7; (try (have eb0 : w7.cell? ⟨W.heap.size, 0, none⟩ = some (.slice none 0 0) := (HL7.cell (p := ⟨W.heap.size, 0, none⟩) la0).trans ea0; have db0 : w7.cell? ⟨W.heap.size, 1, none⟩ = some (.slice none 0 0) := (HL7.cell (p := ⟨W.heap.size, 1, none⟩) la0).trans da0; have fb0 : w7.frozen? ⟨W.heap.size, 0, none⟩ = false := (HL7.frozen (p := ⟨W.heap.size, 0, none⟩) la0).trans fa0; have kb0 : w7.frozen? ⟨W.heap.size, 1, none⟩ = false := (HL7.frozen (p := ⟨W.heap.size, 1, none⟩) la0).trans ka0)); (try (have eb1 : w7.cell? ⟨W.heap.size + 1, 0, none⟩ = some (.slice none 0 0) := (HL7.cell (p := ⟨W.heap.size + 1, 0, none⟩) la1).trans ea1; have db1 : w7.cell? ⟨W.heap.size + 1, 1, none⟩ = some (.slice none 0 0) := (HL7.cell (p := ⟨W.heap.size + 1, 1, none⟩) la1).trans da1; have fb1 : w7.frozen? ⟨W.heap.size + 1, 0, none⟩ = false := (HL7.frozen (p := ⟨W.heap.size + 1, 0, none⟩) la1).trans fa1; have kb1 : w7.frozen? ⟨W.heap.size + 1, 1, none⟩ = false := (HL7.frozen (p := ⟨W.heap.size + 1, 1, none⟩) la1).trans ka1)); (try (have eb2 : w7.cell? ⟨W.heap.size + 1 + 1, 0, none⟩ = some (.slice none 0 0) := (HL7.cell (p := ⟨W.heap.size + 1 + 1, 0, none⟩) la2).trans ea2; have db2 : w7.cell? ⟨W.heap.size + 1 + 1, 1, none⟩ = some (.slice none 0 0) := (HL7.cell (p := ⟨W.heap.size + 1 + 1, 1, none⟩) la2).trans da2; have fb2 : w7.frozen? ⟨W.heap.size + 1 + 1, 0, none⟩ = false := (HL7.frozen (p := ⟨W.heap.size + 1 + 1, 0, none⟩) la2).trans fa2; have kb2 : w7.frozen? ⟨W.heap.size + 1 + 1, 1, none⟩ = false := (HL7.frozen (p := ⟨W.heap.size + 1 + 1, 1, none⟩) la2).trans ka2)); (try (have pc0 : (∀ j, w7.cell? ⟨w6.heap.size, j, none⟩ = #[Value.slice none 0 0, Value.slice none 0 0][j]?) ∧ (∀ j, w7.frozen? ⟨w6.heap.size, j, none⟩ = false) ∧ w6.heap.size < w7.heap.size := (by first | exact third_new (t := 33) (bTrans (by first | ((repeat (first | exact Below.refl _ _ | with_reducible refine Below.drew ?_ | with_reducible refine bAlloc ?_ _)); done) | fail) hb7) (by first | rfl | (simp only [size_alloc, sz_drew]; done) | fail) | fail); have lc0 := pc0.2.2; have ec0 : w7.cell? ⟨w6.heap.size, 0, none⟩ = some (.slice none 0 0) := (pc0.1 0).trans rfl; have dc0 : w7.cell? ⟨w6.heap.size, 1, none⟩ = some (.slice none 0 0) := (pc0.1 1).trans rfl; have fc0 := pc0.2.1 0; have kc0 := pc0.2.1 1; clear pc0)); (try (have pc1 : (∀ j, w7.cell? ⟨w6.heap.size + 1, j, none⟩ = #[Value.slice none 0 0, Value.slice none 0 0][j]?) ∧ (∀ j, w7.frozen? ⟨w6.heap.size + 1, j, none⟩ = false) ∧ w6.heap.size + 1 < w7.heap.size := (by first | exact third_new (t := 33) (bTrans (by first | ((repeat (first | exact Below.refl _ _ | with_reducible refine Below.drew ?_ | with_reducible refine bAlloc ?_ _)); done) | fail) hb7) (by first | rfl | (simp only [size_alloc, sz_drew]; done) | fail) | fail); have lc1 := pc1.2.2; have ec1 : w7.cell? ⟨w6.heap.size + 1, 0, none⟩ = some (.slice none 0 0) := (pc1.1 0).trans rfl; have dc1 : w7.cell? ⟨w6.heap.size + 1, 1, none⟩ = some (.slice none 0 0) := (pc1.1 1).trans rfl; have fc1 := pc1.2.1 0; have kc1 := pc1.2.1 1; clear pc1)); have hs7 := HN.out.size; clear hrow7 hb7 HL7))
      all_goals
        first
          | refine after_of (copy_leaf2 (by first | ((repeat (first | exact HN.out | exact HW.out | with_reducible refine Below.drew ?_ | with_reducible refine bAlloc ?_ _)); done) | fail) (PB.out.below (by first | ((repeat (first | exact Below.refl _ _ | with_reducible refine Below.drew ?_ | with_reducible refine bAlloc ?_ _)); done) | fail)) (PC.out.below (by first | ((repeat (first | exact Below.refl _ _ | with_reducible refine Below.drew ?_ | with_reducible refine bAlloc ?_ _)); done) | fail)) HA.out) (by simp only [Act.put, List.setIfInBounds_toArray, List.set_cons_zero, List.set_cons_succ]; rfl)
          | refine after_of (copy_leaf (z0 := none) (k0 := 0) (d0 := 0) (z1 := none) (k1 := 0) (d1 := 0) (by first | ((repeat (first | exact HN.out | exact HW.out | with_reducible refine Below.drew ?_ | with_reducible refine bAlloc ?_ _)); done) | fail) ?_ ?_ ?_ (PB.out.below (by first | ((repeat (first | exact Below.refl _ _ | with_reducible refine Below.drew ?_ | with_reducible refine bAlloc ?_ _)); done) | fail)) (PC.out.below (by first | ((repeat (first | exact Below.refl _ _ | with_reducible refine Below.drew ?_ | with_reducible refine bAlloc ?_ _)); done) | fail)) HA.out) (by simp only [Act.put, List.setIfInBounds_toArray, List.set_cons_zero, List.set_cons_succ]; rfl)
      all_goals first
        | exact Nat.le_refl _
        | (simp; done)
        | (go_keep; done)
        | (simp; omega)
        | omega
    · intro v45 v46 v47 v48 v49 v50 v51 v52 v53 v12 w5 hC
      simp only [Act.put, List.setIfInBounds_toArray, List.set_cons_zero, List.set_cons_succ]
      obtain ⟨u, a1, c1, a2, c2, rfl, hb5, y0, y1, r1, r2, hap⟩ := hC
      have HB5 := Lib.hid hb5
      have HT1 := Lib.hid (HR1.out.below hb5)
      have R1 := Lib.hid r1
      have R2 := Lib.hid r2
      have HAP := Lib.hid hap
      clear hb5 r1 r2 hap
      clear HMK HN HW
      by_cases hneg : at_ < 0
      · clear y0 y1
        go_wp2_with fail
        go_ret
        exact ⟨rfl, bTrans HB2.out HB5.out⟩
      · obtain ⟨k, rfl⟩ := Int.eq_ofNat_of_zero_le (show 0 ≤ at_ by omega)
        by_cases hge : n + m ≤ k
        · clear y0 y1
          go_wp2_with fail
          go_ret
          exact ⟨rfl, bTrans HB2.out HB5.out⟩
        · have hle : (decide (bz = bz) && decide (([] : List Int) = cz)) = ((m : Int) == 0) := by rw [nil_is, HLC.out]; simp
          obtain ⟨lm, hlm⟩ : ∃ lm, ((m : Int) == 0) = lm := ⟨_, rfl⟩
          rw [hlm] at hle
          have HLE := Lib.hid (show ∀ z : List Int, z = bz → (decide (z = bz) && decide (([] : List Int) = cz)) = lm from fun z hz => by rw [hz]; exact hle)
          have hself : (lm == lm) = true := beq_self_eq_true _
          clear hle
          by_cases hkn : k < n
          · have hkb : k < bz.length := by rw [HLB.out]; exact hkn
            obtain ⟨g, rfl, hg1, hg2, hg3⟩ := R1.out.2 (by omega)
            have hgu := row_ne R1.out y0 g (by omega) rfl
            have q1 := row_cell R1.out hkn hkb
            have q2 := hg3 k
            have hsm := set_same bz k hkb tv
            obtain ⟨x, hx⟩ : ∃ x, bz[k] = x := ⟨_, rfl⟩
            rw [hx] at q1 hsm
            have S1 := Lib.hid (rd_set (B := W.heap.size) tv R1.out hkn)
            have S2 := Lib.hid (rd_apart (g := g) (k := k) (v := .int .i64 tv) R2.out (show 0 < n by omega) HAP.out)
            obtain ⟨sm, hs⟩ : ∃ sm, (x == tv) = sm := ⟨_, rfl⟩
            rw [hs] at hsm
            have HB6 := Lib.hid (HB5.out.setCell (p := ⟨g, k, none⟩) hg1 (.int .i64 tv))
            have z0 : (w5.setCell ⟨g, k, none⟩ (.int .i64 tv)).cell? ⟨u, 0, none⟩ = some (.slice (some ⟨g, 0, none⟩) n c1) := (World.cell?_setCell_other _ _ _ _ (by first | (simp; done) | (simp; intro q; exact absurd q.symm hgu) | (simp; intro q; exact absurd q hgu))).trans y0
            have z1 : (w5.setCell ⟨g, k, none⟩ (.int .i64 tv)).cell? ⟨u, 1, none⟩ = some (.slice a2 m c2) := (World.cell?_setCell_other _ _ _ _ (by first | (simp; done) | (simp; intro q; exact absurd q.symm hgu) | (simp; intro q; exact absurd q hgu))).trans y1
            have Z := Lib.hid (And.intro z0 z1)
            have HSM2 := Lib.hid (show ∀ z : List Int, z = cz → (decide (bz.set k tv = bz) && decide (z = cz)) = sm from fun z hz => by rw [hsm, hz]; simp)
            clear hsm hx hg1 hg2 hg3 hgu
            go_wp2_with fail
            with_reducible refine (HV.out _ _ _ _ _ _ _ _ (HL.out.below (bTrans HB2.out HB6.out)) S1.out S2.out (by omega)).mono ?_; rintro e w6 ⟨rfl, hb6⟩
            rw [HSM2.out _ rfl]
            have HB7 := Lib.hid (bTrans HB6.out hb6)
            obtain ⟨x0, x1⟩ := HK.out _ HB7.out
            have HR7 := Lib.hid (HR1.out.below HB7.out)
            have hself2 : (sm == sm) = true := beq_self_eq_true _
            clear hb6
            go_wp2_with fail
            with_reducible refine (HV.out _ _ n 0 0 bz [] _ (HL.out.below (bTrans HB2.out HB7.out)) HR7.out (Rd.nil _ _) (by omega)).mono ?_; rintro e w7 ⟨rfl, hb7⟩
            rw [HLE.out _ rfl]
            have HB8 := Lib.hid (bTrans HB7.out hb7)
            clear hb7 x0 x1
            go_wp2_with fail
            go_ret
            exact ⟨rfl, bTrans HB2.out HB8.out⟩
          · obtain ⟨j, rfl⟩ : ∃ j, k = n + j := ⟨k - n, by omega⟩
            have hjm : j < m := by omega
            have hjc : j < cz.length := by rw [HLC.out]; exact hjm
            have hsub : (((n + j : Nat) : Int) - (n : Int)) = (j : Int) := by omega
            obtain ⟨g, rfl, hg1, hg2, hg3⟩ := R2.out.2 (by omega)
            have hgu := row_ne R2.out y0 g (by omega) rfl
            have q1 := row_cell R2.out hjm hjc
            have q2 := hg3 j
            have hsm := set_same cz j hjc tv
            obtain ⟨x, hx⟩ : ∃ x, cz[j] = x := ⟨_, rfl⟩
            rw [hx] at q1 hsm
            have S2 := Lib.hid (rd_set (B := W.heap.size) tv R2.out hjm)
            have S1 := Lib.hid (rd_apart (g := g) (k := j) (v := .int .i64 tv) R1.out (show 0 < m by omega) HAP.out.symm)
            obtain ⟨sm, hs⟩ : ∃ sm, (x == tv) = sm := ⟨_, rfl⟩
            rw [hs] at hsm
            have HB6 := Lib.hid (HB5.out.setCell (p := ⟨g, j, none⟩) hg1 (.int .i64 tv))
            have z0 : (w5.setCell ⟨g, j, none⟩ (.int .i64 tv)).cell? ⟨u, 0, none⟩ = some (.slice a1 n c1) := (World.cell?_setCell_other _ _ _ _ (by first | (simp; done) | (simp; intro q; exact absurd q.symm hgu) | (simp; intro q; exact absurd q hgu))).trans y0
            have z1 : (w5.setCell ⟨g, j, none⟩ (.int .i64 tv)).cell? ⟨u, 1, none⟩ = some (.slice (some ⟨g, 0, none⟩) m c2) := (World.cell?_setCell_other _ _ _ _ (by first | (simp; done) | (simp; intro q; exact absurd q.symm hgu) | (simp; intro q; exact absurd q hgu))).trans y1
            have HSM2 := Lib.hid (show ∀ z : List Int, z = bz → (decide (z = bz) && decide (cz.set j tv = cz)) = sm from fun z hz => by rw [hsm, hz]; simp)
            clear hsm hx hg1 hg2 hg3 hgu
            go_wp2_with fail
            with_reducible refine (HV.out _ _ _ _ _ _ _ _ (HL.out.below (bTrans HB2.out HB6.out)) S1.out S2.out (by omega)).mono ?_; rintro e w6 ⟨rfl, hb6⟩
            rw [HSM2.out _ rfl]
            have HB7 := Lib.hid (bTrans HB6.out hb6)
            obtain ⟨x0, x1⟩ := HK.out _ HB7.out
            have HR7 := Lib.hid (HR1.out.below HB7.out)
            have hself2 : (sm == sm) = true := beq_self_eq_true _
            clear hb6
            go_wp2_with fail
            with_reducible refine (HV.out _ _ n 0 0 bz [] _ (HL.out.below (bTrans HB2.out HB7.out)) HR7.out (Rd.nil _ _) (by omega)).mono ?_; rintro e w7 ⟨rfl, hb7⟩
            rw [HLE.out _ rfl]
            have HB8 := Lib.hid (bTrans HB7.out hb7)
            clear hb7 x0 x1
            go_wp2_with fail
            go_ret
            exact ⟨rfl, bTrans HB2.out HB8.out⟩
end Go.Proofs.Ytniefpdibmpngaa
