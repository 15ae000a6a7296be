/- The contract of symbolFits. -/
import Derived.Test.YtknldomgmogccaaCeC
import Derived.Test.YtknldomgmogccaaCeD
import Derived.Test.YtknldomgmogccaaCeE
import Derived.Laws.Strings
namespace Go.Proofs.Ytknldomgmogccaa
set_option linter.unusedVariables false
set_option linter.unusedSimpArgs false
open Go.Joins Go.ChangeShapes Go.WideShapes Go.ChangeAt Go.RowKit

theorem boxed {w W' : World} {cs : Array Value} {t : TypeId} (h : Below (w.alloc (.cells cs t)).heap.size (w.alloc (.cells cs t)) W') (j : Nat) : W'.cell? ⟨w.heap.size, j, none⟩ = cs[j]? := by
  rw [h.cell (p := ⟨w.heap.size, j, none⟩) (by rw [size_alloc]; exact Nat.lt_succ_self _)]
  exact cell_of_row _ _ j cs t (0, 0) (heap_alloc_new w _)
theorem two_boxes {w W : World} {c1 c2 : Array Value} {t1 t2 : TypeId} (h : Below ((w.alloc (.cells c1 t1)).alloc (.cells c2 t2)).heap.size ((w.alloc (.cells c1 t1)).alloc (.cells c2 t2)) W) :
    (∀ j, W.cell? ⟨w.heap.size, j, none⟩ = c1[j]?) ∧ ∀ j, W.cell? ⟨w.heap.size + 1, j, none⟩ = c2[j]? :=
  ⟨fun j => boxed (bTrans (bAlloc (Below.refl _ _) _) h) j, fun j => by
    have := boxed (w := w.alloc (.cells c1 t1)) h j
    rwa [size_alloc] at this⟩
set_option maxHeartbeats 4000000 in
theorem sym_any (v0 v1 v3 v4 v5 v6 : Value) (ga : Option Addr) (m gc : Nat) (l : List Seg) (s : Sym) (w : World) (hm : l.length = m) (hg : RdG w ga l) (hl : m < 9223372036854775808) (hsb : segsB 0 l = true) (hb : ∀ s ∈ l, u64B s.place ∧ u64B s.size)
    (hs : u64B s.place ∧ u64B s.size ∧ s.name.length < 9223372036854775808 ∧ s.ver.length < 9223372036854775808) :
    Calls Try.prog 30 #[.agg #[v0, v1, .slice ga m gc, v3, v4, v5, v6], .agg #[.string ⟨s.name.toArray⟩, .string ⟨s.ver.toArray⟩, .int .u64 s.place, .int .u64 s.size, .int .i64 s.kind, .int .i64 s.bind, .int .i64 s.seen, .bool s.defd]] w fun e w' => e = .returned (.bool (symB l s)) ∧ Below w.heap.size w w' := by
  obtain ⟨r, hr⟩ : ∃ r, symB l s = r := ⟨_, rfl⟩
  rw [hr]
  obtain ⟨nm, ver, p, z, kd, bd, sn, df⟩ := s
  obtain ⟨hp, hz, hnm, hver⟩ := hs
  simp only [] at hp hz hnm hver ⊢
  unfold symB at hr
  simp only [] at hr
  have HNM := Lib.hid (fun W => name_any nm W hnm)
  have HVE := Lib.hid (fun W => name_any ver W hver)
  have HAT := Lib.hid (fun W (h : RdG W ga l) => at_any v0 v1 v3 v4 v5 v6 ga m gc l p z W hm h hl hb hp hz)
  obtain ⟨i, hi⟩ : ∃ i, atF l p z = i := ⟨_, rfl⟩
  have hil0 := firstI_lt (fun s => hasB s p z) l
  have hil : -1 ≤ i ∧ i < l.length := by rw [← hi]; exact hil0
  rw [hi] at HAT hr
  obtain ⟨q1, hq1⟩ : ∃ q, nameB nm = q := ⟨_, rfl⟩
  obtain ⟨q2, hq2⟩ : ∃ q, nameB ver = q := ⟨_, rfl⟩
  rw [hq1] at HNM hr
  rw [hq2] at HVE hr
  rw [hm] at hil
  obtain ⟨qv, hqv⟩ : ∃ qv, (q1 && (ver == [] || q2)) = qv := ⟨_, rfl⟩
  obtain ⟨cj, hcj⟩ : ∃ cj, (decide (1 ≤ kd) && (decide (kd ≤ 2) && (decide (1 ≤ bd) && (decide (bd ≤ 3) && (decide (1 ≤ sn) && decide (sn ≤ 2)))))) = cj := ⟨_, rfl⟩
  obtain ⟨rr, hrr⟩ : ∃ rr, (if df then decide (0 ≤ i) && (if kd = 1 then decide (4 ≤ flagsAt l i) && (decide (p % 4 = 0) && decide (0 < z)) else !decide (4 ≤ flagsAt l i)) else decide (p = 0) && (decide (z = 0) && (decide (bd ≠ 1) && decide (sn ≠ 2)))) = rr := ⟨_, rfl⟩
  rw [hqv, hcj, hrr] at hr
  have HG := Lib.hid hg
  have HM := Lib.hid hm
  have HSB := Lib.hid (segsB_in hsb)
  have HR := Lib.hid hr
  have HQV := Lib.hid hqv
  have HCJ := Lib.hid hcj
  have HRR := Lib.hid hrr
  clear hr hm hg hsb hi hq1 hq2 hb hqv hcj hrr hil0
  obtain ⟨p0, p1⟩ := hp
  obtain ⟨z0, z1⟩ := hz
  obtain ⟨i0, i1⟩ := hil
  go_enter Try.func30, Try.ntmps30
  go_wp2_with fail
  refine (HNM.out _).mono ?_; rintro e w' ⟨rfl, rfl⟩
  cases q1 with
  | false =>
    have hqf : false = qv := HQV.out
    subst hqf
    have hrf : false = r := HR.out
    subst hrf
    go_wp2_with fail
    go_ret
    exact ⟨rfl, bAlloc (bAlloc (Below.refl _ _) _) _⟩
  | true =>
    by_cases hv : ver = []
    · subst hv
      have hqf : true = qv := HQV.out
      subst hqf
      by_cases hk : (1 ≤ kd ∧ kd ≤ 2) ∧ (1 ≤ bd ∧ bd ≤ 3) ∧ (1 ≤ sn ∧ sn ≤ 2)
      · obtain ⟨⟨k1, k2⟩, ⟨k3, k4⟩, k5, k6⟩ := hk
        have hcj : cj = true := by rw [← HCJ.out]; simp only [Bool.and_eq_true, decide_eq_true_eq]; omega
        subst hcj
        have HR2 := Lib.hid (show rr = r from HR.out)
        cases df with
        | false =>
          go_wp2_with fail
          all_goals (go_ret; exact ⟨ret_bool (by rw [← HR2.out, ← HRR.out, Bool.eq_iff_iff]; simp; try omega), bAlloc (bAlloc (Below.refl _ _) _) _⟩)
        | true =>
          go_wp2_with fail
          refine (HAT.out _ (HG.out.below (bAlloc (bAlloc (Below.refl _ _) _) _))).mono ?_; rintro e W1 ⟨rfl, hb1⟩
          have HB1 := Lib.hid (bTrans (bAlloc (bAlloc (Below.refl w.heap.size w) (.cells #[v0, v1, .slice ga m gc, v3, v4, v5, v6] 30)) _) hb1)
          have d := two_boxes hb1
          have d2 : W1.cell? ⟨w.heap.size, 2, none⟩ = some (.slice ga m gc) := d.1 2
          have s2 : W1.cell? ⟨w.heap.size + 1, 2, none⟩ = some (.int .u64 p) := d.2 2
          have s3 : W1.cell? ⟨w.heap.size + 1, 3, none⟩ = some (.int .u64 z) := d.2 3
          have s4 : W1.cell? ⟨w.heap.size + 1, 4, none⟩ = some (.int .i64 kd) := d.2 4
          clear d hb1
          by_cases h0 : 0 ≤ i
          · obtain ⟨k, rfl⟩ := Int.eq_ofNat_of_zero_le h0
            have hkl : k < l.length := by rw [HM.out]; omega
            obtain ⟨g, off, hge, -, -, -, c2, -⟩ := (HG.out.below HB1.out).at_ hkl
            subst hge
            have hf := HSB.out _ (List.getElem_mem hkl)
            have hfl : flagsAt l (k : Int) = l[k].flags := by unfold flagsAt; rw [Int.toNat_natCast, List.getElem?_eq_getElem hkl]
            obtain ⟨f, he⟩ : ∃ f, l[k].flags = f := ⟨_, rfl⟩
            rw [he] at c2 hf hfl
            have HFL := Lib.hid hfl
            have ha4 := and4 f hf.2.2.1 (by omega)
            obtain ⟨-, -, f1, f5⟩ := hf
            clear hfl he hkl
            by_cases hk1 : kd = 1
            · rcases ha4 with ⟨hb4, hf4⟩ | ⟨hb4, hf4⟩ <;>
              · go_wp2_with fail
                all_goals (go_ret; exact ⟨ret_bool (by rw [← HR2.out, ← HRR.out, HFL.out, Bool.eq_iff_iff]; simp [*]; try (first | omega | (intros; omega))), HB1.out⟩)
            · rcases ha4 with ⟨hb4, hf4⟩ | ⟨hb4, hf4⟩ <;>
              · go_wp2_with fail
                all_goals (go_ret; exact ⟨ret_bool (by rw [← HR2.out, ← HRR.out, HFL.out, Bool.eq_iff_iff]; simp [*]; try (first | omega | (intros; omega))), HB1.out⟩)
          · go_wp2_with fail
            all_goals (go_ret; exact ⟨ret_bool (by rw [← HR2.out, ← HRR.out, Bool.eq_iff_iff]; simp; intros; omega), HB1.out⟩)
      · have hcj : cj = false := by
          rw [Bool.eq_false_iff]; intro hh; rw [← HCJ.out] at hh
          simp only [Bool.and_eq_true, decide_eq_true_eq] at hh
          omega
        subst hcj
        have hrf : false = r := HR.out
        subst hrf
        go_wp2_with fail
        all_goals first
          | (exfalso; omega)
          | (go_ret; exact ⟨rfl, bAlloc (bAlloc (Below.refl _ _) _) _⟩)
    · have hve : (ver == []) = false := by simp [hv]
      go_wp2_with fail
      refine (HVE.out _).mono ?_; rintro e w' ⟨rfl, rfl⟩
      have hqf : q2 = qv := by rw [← HQV.out, hve]; simp
      subst hqf
      cases q2 with
      | false =>
        have hrf : false = r := HR.out
        subst hrf
        go_wp2_with fail
        go_ret
        exact ⟨rfl, bAlloc (bAlloc (Below.refl _ _) _) _⟩
      | true =>
        by_cases hk : (1 ≤ kd ∧ kd ≤ 2) ∧ (1 ≤ bd ∧ bd ≤ 3) ∧ (1 ≤ sn ∧ sn ≤ 2)
        · obtain ⟨⟨k1, k2⟩, ⟨k3, k4⟩, k5, k6⟩ := hk
          have hcj : cj = true := by rw [← HCJ.out]; simp only [Bool.and_eq_true, decide_eq_true_eq]; omega
          subst hcj
          have HR2 := Lib.hid (show rr = r from HR.out)
          cases df with
          | false =>
            go_wp2_with fail
            all_goals (go_ret; exact ⟨ret_bool (by rw [← HR2.out, ← HRR.out, Bool.eq_iff_iff]; simp; try omega), bAlloc (bAlloc (Below.refl _ _) _) _⟩)
          | true =>
            go_wp2_with fail
            refine (HAT.out _ (HG.out.below (bAlloc (bAlloc (Below.refl _ _) _) _))).mono ?_; rintro e W1 ⟨rfl, hb1⟩
            have HB1 := Lib.hid (bTrans (bAlloc (bAlloc (Below.refl w.heap.size w) (.cells #[v0, v1, .slice ga m gc, v3, v4, v5, v6] 30)) _) hb1)
            have d := two_boxes hb1
            have d2 : W1.cell? ⟨w.heap.size, 2, none⟩ = some (.slice ga m gc) := d.1 2
            have s2 : W1.cell? ⟨w.heap.size + 1, 2, none⟩ = some (.int .u64 p) := d.2 2
            have s3 : W1.cell? ⟨w.heap.size + 1, 3, none⟩ = some (.int .u64 z) := d.2 3
            have s4 : W1.cell? ⟨w.heap.size + 1, 4, none⟩ = some (.int .i64 kd) := d.2 4
            clear d hb1
            by_cases h0 : 0 ≤ i
            · obtain ⟨k, rfl⟩ := Int.eq_ofNat_of_zero_le h0
              have hkl : k < l.length := by rw [HM.out]; omega
              obtain ⟨g, off, hge, -, -, -, c2, -⟩ := (HG.out.below HB1.out).at_ hkl
              subst hge
              have hf := HSB.out _ (List.getElem_mem hkl)
              have hfl : flagsAt l (k : Int) = l[k].flags := by unfold flagsAt; rw [Int.toNat_natCast, List.getElem?_eq_getElem hkl]
              obtain ⟨f, he⟩ : ∃ f, l[k].flags = f := ⟨_, rfl⟩
              rw [he] at c2 hf hfl
              have HFL := Lib.hid hfl
              have ha4 := and4 f hf.2.2.1 (by omega)
              obtain ⟨-, -, f1, f5⟩ := hf
              clear hfl he hkl
              by_cases hk1 : kd = 1
              · rcases ha4 with ⟨hb4, hf4⟩ | ⟨hb4, hf4⟩ <;>
                · go_wp2_with fail
                  all_goals (go_ret; exact ⟨ret_bool (by rw [← HR2.out, ← HRR.out, HFL.out, Bool.eq_iff_iff]; simp [*]; try (first | omega | (intros; omega))), HB1.out⟩)
              · rcases ha4 with ⟨hb4, hf4⟩ | ⟨hb4, hf4⟩ <;>
                · go_wp2_with fail
                  all_goals (go_ret; exact ⟨ret_bool (by rw [← HR2.out, ← HRR.out, HFL.out, Bool.eq_iff_iff]; simp [*]; try (first | omega | (intros; omega))), HB1.out⟩)
            · go_wp2_with fail
              all_goals (go_ret; exact ⟨ret_bool (by rw [← HR2.out, ← HRR.out, Bool.eq_iff_iff]; simp; intros; omega), HB1.out⟩)
        · have hcj : cj = false := by
            rw [Bool.eq_false_iff]; intro hh; rw [← HCJ.out] at hh
            simp only [Bool.and_eq_true, decide_eq_true_eq] at hh
            omega
          subst hcj
          have hrf : false = r := HR.out
          subst hrf
          go_wp2_with fail
          all_goals first
            | (exfalso; omega)
            | (go_ret; exact ⟨rfl, bAlloc (bAlloc (Below.refl _ _) _) _⟩)
end Go.Proofs.Ytknldomgmogccaa
