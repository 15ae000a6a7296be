/- LookupShown: its walk. -/
import Derived.Test.YthammjpadbbflaaLkQ
namespace Go.Proofs.Ythammjpadbbflaa
set_option linter.unusedVariables false
set_option linter.unusedSimpArgs false
open Go.Joins Go.ChangeShapes Go.WideShapes Go.ChangeAt Go.RowKit Go.Deep Go.Shelf

theorem findZ_pos {l : List Sym} {name ver : List UInt8} (h : 0 ≤ findZ l name ver 0) : ∃ j, ∃ hj : j < l.length, findZ l name ver 0 = (j : Int) ∧ hitS name ver l[j] = true := by
  unfold findZ at h ⊢
  cases e : (l.drop 0).findIdx? (hitS name ver) with
  | none => rw [e] at h; simp at h
  | some k =>
    rw [List.findIdx?_eq_some_iff_getElem] at e
    obtain ⟨hk, hq, -⟩ := e
    simp only [List.drop_zero] at hk hq
    exact ⟨k, hk, by simp, hq⟩
theorem inL_pos {l : List Ob} {name ver : List UInt8} {sc : List Nat} (h : 0 ≤ (inL l name ver sc).1) : ∃ k ∈ sc, ∃ j, ∃ hj : j < (symsAt l k).length, inL l name ver sc = ((k : Int), (j : Int)) ∧ hitS name ver (symsAt l k)[j] = true := by
  induction sc with
  | nil => exact absurd h (by show ¬ (0 : Int) ≤ -1; omega)
  | cons k r ih =>
    unfold inL at h ⊢
    by_cases hf : 0 ≤ findZ (symsAt l k) name ver 0
    · rw [if_pos hf]
      obtain ⟨j, hj, e, hh⟩ := findZ_pos hf
      exact ⟨k, by simp, j, hj, by rw [e], hh⟩
    · rw [if_neg hf] at h ⊢
      obtain ⟨k', hk', q⟩ := ih h
      exact ⟨k', by simp [hk'], q⟩
theorem bindS_cases (l : List Ob) (sc : List Nat) (o y : Nat) (ho : o < l.length) (hy : y < l[o].syms.length) (hsc : ∀ k ∈ sc, k < l.length) :
    ((bindS l sc o y l[o].syms[y]).2.2 ≠ 0 ∧ l[o].syms[y].defd = false ∧ (l[o].syms[y].bind == 3) = false) ∨
    ((bindS l sc o y l[o].syms[y]).1 = -1 ∧ (bindS l sc o y l[o].syms[y]).2.1 = -1 ∧ (bindS l sc o y l[o].syms[y]).2.2 = 0 ∧ l[o].syms[y].defd = false ∧ (l[o].syms[y].bind == 3) = true) ∨
    ∃ (o' y' : Nat) (d : Sym), (bindS l sc o y l[o].syms[y]).1 = (o' : Int) ∧ (bindS l sc o y l[o].syms[y]).2.1 = (y' : Int) ∧ (bindS l sc o y l[o].syms[y]).2.2 = 0 ∧ o' < l.length ∧ y' < (symsAt l o').length ∧ (symsAt l o')[y']? = some d ∧ (o' = o ∨ shownB d = true) ∧ d.defd = true ∧ d.name = l[o].syms[y].name ∧ (l[o].syms[y].ver = [] ∨ d.ver = l[o].syms[y].ver) := by
  have hsy := symsAt_eq ho
  obtain ⟨s, hs⟩ : ∃ s, l[o].syms[y] = s := ⟨_, rfl⟩
  have hat : (symsAt l o)[y]? = some s := by rw [hsy, List.getElem?_eq_getElem hy, hs]
  have hyl : y < (symsAt l o).length := by rw [hsy]; exact hy
  rw [hs]
  have hself : s.defd = true → ∃ (o' y' : Nat) (d : Sym), (o : Int) = (o' : Int) ∧ (y : Int) = (y' : Int) ∧ (0 : Int) = 0 ∧ o' < l.length ∧ y' < (symsAt l o').length ∧ (symsAt l o')[y']? = some d ∧ (o' = o ∨ shownB d = true) ∧ d.defd = true ∧ d.name = s.name ∧ (s.ver = [] ∨ d.ver = s.ver) := fun hd =>
    ⟨o, y, s, rfl, rfl, rfl, ho, hyl, hat, Or.inl rfl, hd, rfl, Or.inr rfl⟩
  unfold bindS
  split
  · rename_i h
    exact Or.inr (Or.inr (hself (by simp at h; exact h.1)))
  · split
    · rename_i h
      obtain ⟨k, hk, j, hj, e, hh⟩ := inL_pos h
      unfold hitS isB at hh
      simp only [Bool.and_eq_true, Bool.or_eq_true, beq_iff_eq] at hh
      refine Or.inr (Or.inr ⟨k, j, (symsAt l k)[j], by rw [e], by rw [e], rfl, hsc k hk, hj, List.getElem?_eq_getElem hj, Or.inr hh.1, ?_, hh.2.1, hh.2.2⟩)
      have := hh.1
      unfold shownB at this
      simp only [Bool.and_eq_true] at this
      exact this.1
    · split
      · rename_i h
        exact Or.inr (Or.inr (hself h))
      · rename_i hd
        split
        · rename_i h
          exact Or.inr (Or.inl ⟨rfl, rfl, rfl, by simpa using hd, h⟩)
        · rename_i h
          split
          · exact Or.inl ⟨by decide, by simpa using hd, by simpa using h⟩
          · exact Or.inl ⟨by decide, by simpa using hd, by simpa using h⟩
set_option maxHeartbeats 4000000 in
set_option maxRecDepth 100000 in
theorem LookupShown_walk (a : Option Addr) (l : List Ob) (c : Nat) (b : Option Addr) (z : List Int) (d : Nat) (obj sym : Int) (w : World) (hl : RdL w a l) (hm : l.length ≤ maxLen) (hs : Rd w b z.length (i64s z)) (hz : z.length ≤ maxLen) :
    Calls Try.prog 6 #[.slice a l.length c, .slice b z.length d, .int .i64 obj, .int .i64 sym] w fun e w' => e = .returned (.bool true) ∧ Below w.heap.size w w' := by
  unfold maxLen at hm hz
  have HSH := Lib.hid (fun W (hW : RdL W a l) => short_any a c l W hW (by omega))
  have HRI := Lib.hid (fun W (hW : Rd W b z.length (i64s z)) => right_any b d z l.length W hW (by omega))
  have HL := Lib.hid hl
  have HS := Lib.hid hs
  obtain ⟨sh, hsh⟩ : ∃ r, shortB l = r := ⟨_, rfl⟩
  obtain ⟨ri, hri⟩ : ∃ r, rightB z l.length = r := ⟨_, rfl⟩
  rw [hsh] at HSH
  rw [hri] at HRI
  have HSE := Lib.hid hsh
  have HRE := Lib.hid hri
  obtain ⟨m, hm1⟩ : ∃ m, l.length = m := ⟨_, rfl⟩
  obtain ⟨n, hn1⟩ : ∃ n, z.length = n := ⟨_, rfl⟩
  rw [hm1] at hm HSH HRI HRE ⊢
  rw [hn1] at hz HRI HS ⊢
  have HM := Lib.hid hm1
  have HN := Lib.hid hn1
  clear hl hs hsh hri hm1 hn1
  go_enter Try.func6, Try.ntmps6
  go_wp2_with fail
  refine (awake_any _).mono ?_; rintro e w1 ⟨rfl, hb1⟩
  have B1 := Lib.hid hb1
  clear hb1
  go_wp2_with fail
  refine (HSH.out _ (HL.out.below B1.out)).mono ?_; rintro e w2 ⟨rfl, hb2⟩
  have B1 := Lib.hid (bTrans B1.out hb2)
  clear hb2
  go_wp2_with fail
  refine (HRI.out _ (HS.out.below B1.out)).mono ?_; rintro e w3 ⟨rfl, rfl⟩
  cases sh with
  | false =>
    go_wp2_with fail
    go_ret
    exact ⟨rfl, B1.out⟩
  | true =>
    cases ri with
    | false =>
      go_wp2_with fail
      go_ret
      exact ⟨rfl, B1.out⟩
    | true =>
      obtain ⟨sc, hzs, hsc, h40⟩ := right_nat HRE.out
      subst hzs
      have hnn : sc.length = n := by have := HN.out; simpa using this
      rw [i64s_ord] at HS
      rw [← HM.out] at hsc
      have HFW := Lib.hid (few_of_short HSE.out)
      have HSC := Lib.hid hsc
      have HNN := Lib.hid hnn
      rw [hnn] at h40
      clear hsc hnn HSH HRI
      rcases Int.lt_or_le obj 0 with h1 | h1
      · have d1 : decide (obj < 0) = true := decide_eq_true h1
        clear h1
        go_wp2_with fail
        go_ret
        exact ⟨rfl, B1.out⟩
      obtain ⟨o, rfl⟩ := Int.eq_ofNat_of_zero_le h1
      have d1 : decide ((o : Int) < 0) = false := decide_eq_false (by omega)
      rcases (Nat.lt_or_ge o m).symm with h2 | h2
      · have d2 : decide ((m : Int) ≤ (o : Int)) = true := decide_eq_true (by omega)
        have d2' : (m : Int) ≤ (o : Int) := by omega
        clear h1
        go_wp2_with fail
        go_ret
        exact ⟨rfl, B1.out⟩
      have d2 : decide ((m : Int) ≤ (o : Int)) = false := decide_eq_false (by omega)
      have d2' : ¬ (m : Int) ≤ (o : Int) := by omega
      rcases Int.lt_or_le sym 0 with h3 | h3
      · have d3 : decide (sym < 0) = true := decide_eq_true h3
        clear h3 h1
        go_wp2_with fail
        go_ret
        exact ⟨rfl, B1.out⟩
      obtain ⟨y, rfl⟩ := Int.eq_ofNat_of_zero_le h3
      have d3 : decide ((y : Int) < 0) = false := decide_eq_false (by omega)
      have hol : o < l.length := by rw [HM.out]; exact h2
      obtain ⟨gl, fl, sa, s2, hgl, x1, x3⟩ := HL.out.syms B1.out hol
      subst hgl
      obtain ⟨p, hp⟩ : ∃ p, (symsAt l o).length = p := ⟨_, rfl⟩
      rw [hp] at x1
      have oo0 : (0 : Int) ≤ (o : Int) := by omega
      have oo1 : (o : Int) < (m : Int) := by omega
      rcases (Nat.lt_or_ge y p).symm with h4 | h4
      · have d4 : decide ((p : Int) ≤ (y : Int)) = true := decide_eq_true (by omega)
        have d4' : (p : Int) ≤ (y : Int) := by omega
        clear h1 h3
        go_wp2_with fail
        go_ret
        exact ⟨rfl, B1.out⟩
      have d4 : decide ((p : Int) ≤ (y : Int)) = false := decide_eq_false (by omega)
      have d4' : ¬ (p : Int) ≤ (y : Int) := by omega
      have hyl : y < l[o].syms.length := by rw [← symsAt_eq hol, hp]; exact h4
      have hs0 := HS.out
      rw [← HNN.out] at hs0
      have HBI := fun W (hW : Below w.heap.size w W) => bind_any (some ⟨gl, fl, none⟩) b c d l sc o y W (HL.out.below hW) (hs0.below hW) HSC.out HFW.out.1 (by rw [HNN.out]; omega) hol hyl
      have hcs := bindS_cases l sc o y hol hyl HSC.out
      obtain ⟨gs, fs, hgs, -, h8⟩ := x3.at_ (k := y) (by rw [hp]; exact h4)
      subst hgs
      have hse : (symsAt l o)[y]'(by rw [hp]; exact h4) = l[o].syms[y] := by simp only [symsAt_eq hol]
      rw [hse] at h8
      obtain ⟨s, hs⟩ : ∃ s, l[o].syms[y] = s := ⟨_, rfl⟩
      rw [hs] at h8 hcs
      simp only [hs] at HBI
      obtain ⟨nm, vr, pl, sz, kd, bd, sn, df⟩ := s
      obtain ⟨z0, z1, z2, z3, z4, z5, z6, z7⟩ := h8
      simp only [] at z0 z1 z2 z3 z4 z5 z6 z7
      have yy0 : (0 : Int) ≤ (y : Int) := by omega
      have yy1 : (y : Int) < (p : Int) := by omega
      obtain ⟨r1, r2, r3, hr⟩ : ∃ r1 r2 r3, bindS l sc o y ⟨nm, vr, pl, sz, kd, bd, sn, df⟩ = (r1, r2, r3) := ⟨_, _, _, rfl⟩
      rw [hr] at hcs
      simp only [hr, HM.out, HNN.out] at HBI
      have HBI := Lib.hid HBI
      clear hs0 hr hyl hp h1 h3 hse hs x3
      go_wp2_with fail
      refine (HBI.out _ (bAlloc B1.out (.cells #[.string ⟨nm.toArray⟩, .string ⟨vr.toArray⟩, .int .u64 pl, .int .u64 sz, .int .i64 kd, .int .i64 bd, .int .i64 sn, .bool df] 45))).mono ?_; rintro e w4 ⟨rfl, hb4⟩
      have bx := (BoxN.new w3 #[.string ⟨nm.toArray⟩, .string ⟨vr.toArray⟩, .int .u64 pl, .int .u64 sz, .int .i64 kd, .int .i64 bd, .int .i64 sn, .bool df] 45).below hb4 (by simp)
      have BX := Lib.hid bx
      have B4 := Lib.hid (bTrans (bAlloc B1.out (.cells #[.string ⟨nm.toArray⟩, .string ⟨vr.toArray⟩, .int .u64 pl, .int .u64 sz, .int .i64 kd, .int .i64 bd, .int .i64 sn, .bool df] 45)) hb4)
      have y7 : w4.cell? ⟨w3.heap.size, 7, none⟩ = some (.bool df) := bx.cell 7
      have y5 : w4.cell? ⟨w3.heap.size, 5, none⟩ = some (.int .i64 bd) := bx.cell 5
      have y1 : w4.cell? ⟨w3.heap.size, 1, none⟩ = some (.string ⟨vr.toArray⟩) := bx.cell 1
      have y0 : w4.cell? ⟨w3.heap.size, 0, none⟩ = some (.string ⟨nm.toArray⟩) := bx.cell 0
      have hws := bx.lt
      clear z0 z1 z2 z3 z4 z5 z6 z7 x1 bx hb4 HBI
      rcases hcs with ⟨he, hdf, hbd⟩ | ⟨rfl, rfl, rfl, hdf, hbd⟩ | ⟨o', y', sd, rfl, rfl, rfl, ho', hy', hsd, hown, hdd, hdn, hdv⟩
      · subst hdf
        have en : (r3 != 0) = true := bne_iff_ne.2 he
        have eb : (bd != 3) = true := by rw [bne, hbd]; rfl
        clear he
        go_wp2_with fail
        go_ret
        exact ⟨rfl, B4.out⟩
      · subst hdf
        have en : ((0 : Int) != 0) = false := by decide
        have em : decide ((-1 : Int) < 0) = true := by decide
        go_wp2_with fail
        go_ret
        exact ⟨rfl, B4.out⟩
      · have en : ((0 : Int) != 0) = false := by decide
        have em : decide ((o' : Int) < 0) = false := decide_eq_false (by omega)
        obtain ⟨gl2, fl2, sa2, s3, hgl2, x1, x3⟩ := HL.out.syms B4.out ho'
        cases hgl2
        obtain ⟨p2, hp2⟩ : ∃ p, (symsAt l o').length = p := ⟨_, rfl⟩
        obtain ⟨gs2, fs2, hgs2, -, h8⟩ := x3.at_ hy'
        subst hgs2
        have hsd2 : (symsAt l o')[y'] = sd := by
          rw [List.getElem?_eq_getElem hy'] at hsd
          exact Option.some.inj hsd
        rw [hsd2] at h8
        rw [hp2] at x1 hy'
        have hom : o' < m := by rw [← HM.out]; exact ho'
        have od1 : decide ((m : Int) ≤ (o' : Int)) = false := decide_eq_false (by omega)
        have od1' : ¬ (m : Int) ≤ (o' : Int) := by omega
        have od2 : decide ((y' : Int) < 0) = false := decide_eq_false (by omega)
        have od3 : decide ((p2 : Int) ≤ (y' : Int)) = false := decide_eq_false (by omega)
        have od3' : ¬ (p2 : Int) ≤ (y' : Int) := by omega
        have q0 : (0 : Int) ≤ (o' : Int) := by omega
        have q1 : (o' : Int) < (m : Int) := by omega
        have q2 : (0 : Int) ≤ (y' : Int) := by omega
        have q3 : (y' : Int) < (p2 : Int) := by omega
        obtain ⟨nm2, vr2, pl2, sz2, kd2, bd2, sn2, df2⟩ := sd
        obtain ⟨z0, z1, z2, z3, z4, z5, z6, z7⟩ := h8
        simp only [] at z0 z1 z2 z3 z4 z5 z6 z7 hdd hdn hdv
        subst hdd
        subst hdn
        have HY0 := Lib.hid y0
        have HY1 := Lib.hid y1
        clear hsd hsd2 ho' hy' hp2 x3
        go_wp2_with fail
        obtain ⟨sh, hsh⟩ : ∃ sh, shownB ⟨nm2, vr2, pl2, sz2, kd2, bd2, sn2, true⟩ = sh := ⟨_, rfl⟩
        rw [hsh] at hown
        refine (rshown_sym ⟨nm2, vr2, pl2, sz2, kd2, bd2, sn2, true⟩ _).mono ?_; rintro e w5 ⟨rfl, hb5⟩
        rw [hsh]
        have B5 := Lib.hid (bTrans (bAlloc B4.out (.cells #[.string ⟨nm2.toArray⟩, .string ⟨vr2.toArray⟩, .int .u64 pl2, .int .u64 sz2, .int .i64 kd2, .int .i64 bd2, .int .i64 sn2, .bool true] 45)) hb5)
        have bx2 := (BoxN.new w4 #[.string ⟨nm2.toArray⟩, .string ⟨vr2.toArray⟩, .int .u64 pl2, .int .u64 sz2, .int .i64 kd2, .int .i64 bd2, .int .i64 sn2, .bool true] 45).below hb5 (by simp)
        have bx1 := (BX.out.below (bAlloc (Below.refl w4.heap.size w4) (.cells #[.string ⟨nm2.toArray⟩, .string ⟨vr2.toArray⟩, .int .u64 pl2, .int .u64 sz2, .int .i64 kd2, .int .i64 bd2, .int .i64 sn2, .bool true] 45)) hws).below hb5 (by simp; omega)
        have v0 : w5.cell? ⟨w3.heap.size, 0, none⟩ = some (.string ⟨nm2.toArray⟩) := bx1.cell 0
        have v1 : w5.cell? ⟨w3.heap.size, 1, none⟩ = some (.string ⟨vr.toArray⟩) := bx1.cell 1
        have u0 : w5.cell? ⟨w4.heap.size, 0, none⟩ = some (.string ⟨nm2.toArray⟩) := bx2.cell 0
        have u1 : w5.cell? ⟨w4.heap.size, 1, none⟩ = some (.string ⟨vr2.toArray⟩) := bx2.cell 1
        have u7 : w5.cell? ⟨w4.heap.size, 7, none⟩ = some (.bool true) := bx2.cell 7
        have enm : (nm2 == nm2) = true := beq_self_eq_true _
        clear z0 z1 z2 z3 z4 z5 z6 z7 x1 y0 y1 y5 y7 hb5 bx1 bx2 hsh HY0 HY1
        by_cases hoo : o' = o
        · subst hoo
          have eo : ((o' : Int) != (o' : Int)) = false := bne_self_eq_false _
          clear hown
          cases hvr : (vr == []) with
          | true =>
            go_wp2_with fail
            go_ret
            exact ⟨rfl, B5.out⟩
          | false =>
            have hv2 : vr2 = vr := by
              rcases hdv with h | h
              · rw [h] at hvr; cases hvr
              · exact h
            subst hv2
            have evr : (vr2 == vr2) = true := beq_self_eq_true _
            go_wp2_with fail
            go_ret
            exact ⟨rfl, B5.out⟩
        · have eo : ((o' : Int) != (o : Int)) = true := bne_iff_ne.2 (by omega)
          have hsh : sh = true := hown.resolve_left hoo
          subst hsh
          clear hown
          cases hvr : (vr == []) with
          | true =>
            go_wp2_with fail
            go_ret
            exact ⟨rfl, B5.out⟩
          | false =>
            have hv2 : vr2 = vr := by
              rcases hdv with h | h
              · rw [h] at hvr; cases hvr
              · exact h
            subst hv2
            have evr : (vr2 == vr2) = true := beq_self_eq_true _
            go_wp2_with fail
            go_ret
            exact ⟨rfl, B5.out⟩
end Go.Proofs.Ythammjpadbbflaa
