/- The document's symbol: contract. -/
import Derived.Test.YtidnojjhchmmgaaCgC
import Derived.Test.YtidnojjhchmmgaaCeG
namespace Go.Proofs.Ytidnojjhchmmgaa
set_option linter.unusedVariables false
set_option linter.unusedSimpArgs false
open Go.Joins Go.ChangeShapes Go.WideShapes Go.ChangeAt Go.RowKit Go.Deep

set_option maxHeartbeats 4000000 in
set_option maxRecDepth 100000 in
theorem rsym_any (v0 v1 v3 v4 v5 v6 : Value) (ga : Option Addr) (m gc : Nat) (l : List Seg) (s : Sym) (w : World) (hm : l.length = m) (hg : RdG w ga l) (hl : m < 9223372036854775808) (hb : ∀ s ∈ l, u64B s.place ∧ u64B s.size)
    (hs : u64B s.place ∧ u64B s.size ∧ s.name.length < 9223372036854775808 ∧ s.ver.length < 9223372036854775808) :
    Calls Try.prog 31 #[.agg #[v0, v1, .slice ga m gc, v3, v4, v5, v6], .agg #[.string ⟨s.name.toArray⟩, .string ⟨s.ver.toArray⟩, .int .u64 s.place, .int .u64 s.size, .int .i64 s.kind, .int .i64 s.bind, .int .i64 s.seen, .bool s.defd]] w fun e w' => e = .returned (.bool (symB l s)) ∧ Below w.heap.size w w' := by
  obtain ⟨r, hr⟩ : ∃ r, symB l s = r := ⟨_, rfl⟩
  rw [hr]
  obtain ⟨nm, ver, p, z, kd, bd, sn, df⟩ := s
  obtain ⟨hp, hz, hnm, hver⟩ := hs
  simp only [] at hp hz hnm hver ⊢
  unfold symB at hr
  simp only [] at hr
  have HNM := Lib.hid (fun W => rname_any nm W hnm)
  have HVE := Lib.hid (fun W => rname_any ver W hver)
  have HAT := Lib.hid (fun W (h : RdG W ga l) => rat_any v0 v1 v3 v4 v5 v6 ga m gc l p z W hm h hl hb hp hz)
  obtain ⟨i, hi⟩ : ∃ i, atF l p z = i := ⟨_, rfl⟩
  have hil0 := firstI_lt (fun s => hasB s p z) l
  have hil : -1 ≤ i ∧ i < l.length := by rw [← hi]; exact hil0
  rw [hi] at HAT hr
  obtain ⟨q1, hq1⟩ : ∃ q, nameB nm = q := ⟨_, rfl⟩
  obtain ⟨q2, hq2⟩ : ∃ q, nameB ver = q := ⟨_, rfl⟩
  rw [hq1] at HNM hr
  rw [hq2] at HVE hr
  rw [hm] at hil
  obtain ⟨qv, hqv⟩ : ∃ qv, (ver == [] || q2) = qv := ⟨_, rfl⟩
  obtain ⟨cj, hcj⟩ : ∃ cj, (decide (1 ≤ kd) && (decide (kd ≤ 2) && (decide (1 ≤ bd) && (decide (bd ≤ 3) && (decide (1 ≤ sn) && decide (sn ≤ 2)))))) = cj := ⟨_, rfl⟩
  obtain ⟨rr, hrr⟩ : ∃ rr, (if df then decide (0 ≤ i) && (if kd = 1 then decide (4 ≤ flagsAt l i) && (decide (p % 4 = 0) && decide (0 < z)) else !decide (4 ≤ flagsAt l i)) else decide (p = 0) && (decide (z = 0) && (decide (bd ≠ 1) && decide (sn ≠ 2)))) = rr := ⟨_, rfl⟩
  rw [hqv, hcj, hrr] at hr
  obtain ⟨W, hW⟩ : ∃ W, (w.alloc (.cells #[v0, v1, .slice ga m gc, v3, v4, v5, v6] 28)).alloc (.cells #[.string ⟨nm.toArray⟩, .string ⟨ver.toArray⟩, .int .u64 p, .int .u64 z, .int .i64 kd, .int .i64 bd, .int .i64 sn, .bool df] 35) = W := ⟨_, rfl⟩
  have hbw : Below w.heap.size w W := by rw [← hW]; exact bAlloc (bAlloc (Below.refl _ _) _) _
  have hx1 : BoxN W w.heap.size #[v0, v1, .slice ga m gc, v3, v4, v5, v6] := by rw [← hW]; exact boxN_alloc (BoxN.new w _ _) _
  have hx2 : BoxN W (w.heap.size + 1) #[.string ⟨nm.toArray⟩, .string ⟨ver.toArray⟩, .int .u64 p, .int .u64 z, .int .i64 kd, .int .i64 bd, .int .i64 sn, .bool df] := by
    rw [← hW]
    have := BoxN.new (w.alloc (.cells #[v0, v1, .slice ga m gc, v3, v4, v5, v6] 28)) #[.string ⟨nm.toArray⟩, .string ⟨ver.toArray⟩, .int .u64 p, .int .u64 z, .int .i64 kd, .int .i64 bd, .int .i64 sn, .bool df] 35
    rwa [size_alloc] at this
  have HG := Lib.hid hg
  have HM := Lib.hid hm
  have HR := Lib.hid hr
  have HQV := Lib.hid hqv
  have HCJ := Lib.hid hcj
  have HRR := Lib.hid hrr
  have HB := Lib.hid hbw
  have HX1 := Lib.hid hx1
  have HX2 := Lib.hid hx2
  clear hr hm hg hi hq1 hq2 hb hqv hcj hrr hil0 hbw hx1 hx2
  obtain ⟨p0, p1⟩ := hp
  obtain ⟨z0, z1⟩ := hz
  obtain ⟨i0, i1⟩ := hil
  go_enter Try.func31, Try.ntmps31
  go_upto_region 1 with fail
  clear hW
  have o2 : W.cell? ⟨w.heap.size, 2, none⟩ = some (.slice ga m gc) := HX1.out.cell 2
  have s0 : W.cell? ⟨w.heap.size + 1, 0, none⟩ = some (.string ⟨nm.toArray⟩) := HX2.out.cell 0
  have s1 : W.cell? ⟨w.heap.size + 1, 1, none⟩ = some (.string ⟨ver.toArray⟩) := HX2.out.cell 1
  go_wp2_with fail
  refine (HNM.out _).mono ?_; rintro e w' ⟨rfl, rfl⟩
  go_upto_region 2 with fail
  go_cut [0, 1, 6] from 9 (fun _ _ s6 wc => s6 = .bool qv ∧ wc = W)
  case first =>
    by_cases hv : ver = []
    · subst hv
      have hqf : true = qv := HQV.out
      subst hqf
      go_wp2_with fail
      go_meet
      case rel => exact ⟨rfl, rfl⟩
    · have hve : (ver == []) = false := by simp [hv]
      go_wp2_with fail
      refine (HVE.out _).mono ?_; rintro e w' ⟨rfl, rfl⟩
      have hqf : q2 = qv := by rw [← HQV.out, hve]; simp
      subst hqf
      go_wp2_with fail
      go_meet
      case rel => exact ⟨rfl, rfl⟩
  case rest =>
    obtain ⟨rfl, rfl⟩ := hcut
    cases q1 with
    | false =>
      have hrf : false = r := HR.out
      subst hrf
      go_wp2_with fail
      go_ret
      exact ⟨rfl, HB.out⟩
    | true =>
      cases qv with
      | false =>
        have hrf : false = r := HR.out
        subst hrf
        go_wp2_with fail
        go_ret
        exact ⟨rfl, HB.out⟩
      | true =>
        have HR1 : Hid ((cj && rr) = r) := Lib.hid HR.out
        clear HR
        have s4 : wc.cell? ⟨w.heap.size + 1, 4, none⟩ = some (.int .i64 kd) := HX2.out.cell 4
        have s5 : wc.cell? ⟨w.heap.size + 1, 5, none⟩ = some (.int .i64 bd) := HX2.out.cell 5
        have s6 : wc.cell? ⟨w.heap.size + 1, 6, none⟩ = some (.int .i64 sn) := HX2.out.cell 6
        go_upto_region 5 with fail
        go_cut [58] from 9 (fun s58 wd => s58 = .bool (!cj) ∧ wd = wc)
        case first =>
          go_wp2_with fail
          all_goals
            go_meet
            case rel =>
              refine ⟨?_, rfl⟩
              (try simp only [bne_iff_ne, ne_eq, bne_eq_false_iff_eq, Bool.not_eq_true', Bool.not_eq_false', beq_iff_eq, beq_eq_false_iff_ne] at *)
              congr 1
              rw [← HCJ.out, Bool.eq_iff_iff]
              simp
              try omega
        case rest =>
          obtain ⟨rfl, rfl⟩ := hcut
          cases cj with
          | false =>
            have hrf : false = r := HR1.out
            subst hrf
            go_wp2_with fail
            go_ret
            exact ⟨rfl, HB.out⟩
          | true =>
            have HR2 : Hid (rr = r) := Lib.hid HR1.out
            clear HR1
            have s2 : wc.cell? ⟨w.heap.size + 1, 2, none⟩ = some (.int .u64 p) := HX2.out.cell 2
            have s3 : wc.cell? ⟨w.heap.size + 1, 3, none⟩ = some (.int .u64 z) := HX2.out.cell 3
            have s7 : wc.cell? ⟨w.heap.size + 1, 7, none⟩ = some (.bool df) := HX2.out.cell 7
            have hk := HCJ.out
            simp only [Bool.and_eq_true, decide_eq_true_eq] at hk
            cases df with
            | false =>
              go_wp2_with fail
              all_goals (go_ret; exact ⟨ret_bool (by rw [← HR2.out, ← HRR.out, Bool.eq_iff_iff]; simp; try omega), HB.out⟩)
            | true =>
              have o0 : wc.cell? ⟨w.heap.size, 0, none⟩ = some v0 := HX1.out.cell 0
              have o1 : wc.cell? ⟨w.heap.size, 1, none⟩ = some v1 := HX1.out.cell 1
              have o3 : wc.cell? ⟨w.heap.size, 3, none⟩ = some v3 := HX1.out.cell 3
              have o4 : wc.cell? ⟨w.heap.size, 4, none⟩ = some v4 := HX1.out.cell 4
              have o5 : wc.cell? ⟨w.heap.size, 5, none⟩ = some v5 := HX1.out.cell 5
              have o6 : wc.cell? ⟨w.heap.size, 6, none⟩ = some v6 := HX1.out.cell 6
              clear hk
              go_wp2_with fail
              refine (HAT.out _ (HG.out.below HB.out)).mono ?_; rintro e W1 ⟨rfl, hb1⟩
              have HB1 := Lib.hid (bTrans HB.out hb1)
              have o2 := cell_below hb1 o2
              have s2 := cell_below hb1 s2
              have s3 := cell_below hb1 s3
              have s4 := cell_below hb1 s4
              clear hb1 o0 o1 o3 o4 o5 o6 s0 s1 s5 s6 s7
              by_cases h0 : 0 ≤ i
              · obtain ⟨k, rfl⟩ := Int.eq_ofNat_of_zero_le h0
                have hkl : k < l.length := by rw [HM.out]; omega
                obtain ⟨g, off, hge, -, -, -, c2, -⟩ := (HG.out.below HB1.out).at_ hkl
                subst hge
                have hfl : flagsAt l (k : Int) = l[k].flags := by unfold flagsAt; rw [Int.toNat_natCast, List.getElem?_eq_getElem hkl]
                obtain ⟨f, he⟩ : ∃ f, l[k].flags = f := ⟨_, rfl⟩
                rw [he] at c2 hfl
                have HFL := Lib.hid hfl
                clear hfl he hkl
                by_cases hk1 : kd = 1
                · subst hk1
                  go_wp2_with fail
                  all_goals (go_ret; exact ⟨ret_bool (by rw [← HR2.out, ← HRR.out, HFL.out, Bool.eq_iff_iff]; simp [*]; try (first | omega | (intros; omega))), HB1.out⟩)
                · have hk1n : (kd == 1) = false := by simp [hk1]
                  go_wp2_with fail
                  all_goals (go_ret; exact ⟨ret_bool (by rw [← HR2.out, ← HRR.out, HFL.out, Bool.eq_iff_iff]; simp [*]; try (first | omega | (intros; omega))), HB1.out⟩)
              · go_wp2_with fail
                all_goals (go_ret; exact ⟨ret_bool (by rw [← HR2.out, ← HRR.out, Bool.eq_iff_iff]; simp; intros; omega), HB1.out⟩)
end Go.Proofs.Ytidnojjhchmmgaa
