/- The document's In, Known, Bind; Short, Right: contracts. -/
import Derived.Test.YthammjpadbbflaaLkJ
namespace Go.Proofs.Ythammjpadbbflaa
set_option linter.unusedVariables false
set_option linter.unusedSimpArgs false
open Go.Joins Go.ChangeShapes Go.WideShapes Go.ChangeAt Go.RowKit Go.Deep Go.Shelf

/-- an object of a list, where its symbols lie -/
theorem RdL.syms {w W : World} {a : Option Addr} {l : List Ob} (h : RdL w a l) (hb : Below w.heap.size w W) {o : Nat} (ho : o < l.length) : ∃ gl fl sa s2, a = some ⟨gl, fl, none⟩ ∧ W.cell? ⟨gl, fl + o * 7 + 3, none⟩ = some (.slice sa (symsAt l o).length s2) ∧ RdS W sa (symsAt l o) := by
  obtain ⟨gl, fl, rfl, -, hob⟩ := (h.below hb).at_ ho
  obtain ⟨sa, s2, ra, rc, x1, x2, x3, x4, x5⟩ := hob
  rw [← symsAt_eq ho] at x1 x3
  exact ⟨gl, fl, sa, s2, rfl, x1, x3⟩
set_option maxHeartbeats 1000000 in
set_option maxRecDepth 100000 in
theorem rin_any (a b : Option Addr) (c d : Nat) (l : List Ob) (sc : List Nat) (name ver : List UInt8) (w : World) (hl : RdL w a l) (hs : Rd w b sc.length (ordV sc)) (hsc : ∀ k ∈ sc, k < l.length) (hf : FewO l) (hn : sc.length ≤ 100) :
    Calls Try.prog 15 #[.slice a l.length c, .slice b sc.length d, .string ⟨name.toArray⟩, .string ⟨ver.toArray⟩] w fun e w' => e = .returned (.tuple #[.int .i64 (inL l name ver sc).1, .int .i64 (inL l name ver sc).2]) ∧ Below w.heap.size w w' := by
  have hm10 := hf.1
  have HL := Lib.hid hl
  have HS := Lib.hid hs
  have HSC := Lib.hid hsc
  have HF := Lib.hid (fun W sa (o : Nat) s2 (h : RdS W sa (symsAt l o)) => rfind_any sa (symsAt l o) s2 name ver W h (by have := (hf.at_ o).1; omega))
  obtain ⟨r1, r2, hr⟩ : ∃ r1 r2, inL l name ver sc = (r1, r2) := ⟨_, _, rfl⟩
  have HR := Lib.hid (show inL l name ver (sc.drop 0) = (r1, r2) by simpa using hr)
  rw [hr]
  obtain ⟨n, hn1⟩ : ∃ n, sc.length = n := ⟨_, rfl⟩
  obtain ⟨m, hm1⟩ : ∃ m, l.length = m := ⟨_, rfl⟩
  have HN := Lib.hid hn1
  have HM := Lib.hid hm1
  rw [hn1] at HS hn ⊢
  rw [hm1] at hm10 ⊢
  clear hl hs hsc hf hr hn1 hm1
  go_enter Try.func15, Try.ntmps15
  go_wp2_with fail
  go_loopw [10] (fun i wr => ∃ k : Nat, i = .int .i64 k ∧ k ≤ n ∧ Hid (inL l name ver (sc.drop k) = (r1, r2)) ∧ Hid (Below w.heap.size w wr)) (fun i _ => n - (intOf i).toNat)
  case atStart => exact ⟨0, rfl, by omega, HR, Lib.hid (Below.refl _ _)⟩
  case round =>
    obtain ⟨k, rfl, hk, HRK, HB⟩ := hrel
    by_cases hlt : k < n
    · have hkl : k < sc.length := by rw [HN.out]; exact hlt
      obtain ⟨g, off, hge, -, hc⟩ := (HS.out.below HB.out).at_ hlt
      subst hge
      rw [ordV_get sc k hkl] at hc
      have hmem := List.getElem_mem hkl
      have hhit := inL_hit l name ver sc k hkl
      have hmis := inL_miss l name ver sc k hkl
      obtain ⟨o, ho⟩ : ∃ o, sc[k] = o := ⟨_, rfl⟩
      rw [ho] at hc hmem
      simp only [ho] at hhit hmis
      have hol : o < l.length := HSC.out _ hmem
      obtain ⟨gl, fl, sa, s2, hgl, x1, x3⟩ := HL.out.syms HB.out hol
      subst hgl
      have HCC := Lib.hid (HF.out wr sa o s2 x3)
      obtain ⟨r, hr⟩ : ∃ r, findZ (symsAt l o) name ver 0 = r := ⟨_, rfl⟩
      rw [hr] at HCC hhit hmis
      obtain ⟨q, hq⟩ : ∃ q, (symsAt l o).length = q := ⟨_, rfl⟩
      rw [hq] at x1 HCC
      have HHI := Lib.hid hhit
      have HMI := Lib.hid hmis
      have hom : o < m := by rw [← HM.out]; exact hol
      have kk0 : (0 : Int) ≤ (k : Int) := by omega
      have kk1 : (k : Int) < (n : Int) := by omega
      have oo0 : (0 : Int) ≤ (o : Int) := by omega
      have oo1 : (o : Int) < (m : Int) := by omega
      have hc3 := hc
      clear hmem hhit hmis ho hr hq x3
      go_wp2_with fail
      refine HCC.out.mono ?_; rintro e w' ⟨rfl, hb'⟩
      have HB' := Lib.hid (bTrans HB.out hb')
      have hc2 := (hb'.cell (heap_lt_of_cell hc)).trans hc
      clear hb' hc hc3 x1
      by_cases hr0 : 0 ≤ r
      · have hrd : decide (0 ≤ r) = true := decide_eq_true hr0
        have he := (HHI.out hr0).symm.trans HRK.out
        have HE1 := Lib.hid (show (o : Int) = r1 from congrArg Prod.fst he)
        have HE2 := Lib.hid (show r = r2 from congrArg Prod.snd he)
        clear he
        go_wp2_with fail
        go_ret2
        exact ⟨by rw [← HE1.out, ← HE2.out]; rfl, HB'.out⟩
      · have hrd : decide (0 ≤ r) = false := decide_eq_false hr0
        have HK2 := Lib.hid ((HMI.out (by omega)).symm.trans HRK.out)
        go_wp2_with fail
        go_roundw
        case rel => exact ⟨k + 1, by go_num, by omega, HK2, HB'⟩
        case measure => simp [intOf]; omega
    · have he := (inL_end l name ver sc k (by rw [HN.out]; omega)).symm.trans HRK.out
      have he1 : (-1 : Int) = r1 := congrArg Prod.fst he
      have he2 : (-1 : Int) = r2 := congrArg Prod.snd he
      subst he1
      subst he2
      clear he
      go_wp2_with fail
      go_ret2
      exact ⟨rfl, HB.out⟩
set_option maxHeartbeats 1000000 in
set_option maxRecDepth 100000 in
theorem rknown_any (a b : Option Addr) (c d : Nat) (l : List Ob) (sc : List Nat) (name : List UInt8) (w : World) (hl : RdL w a l) (hs : Rd w b sc.length (ordV sc)) (hsc : ∀ k ∈ sc, k < l.length) (hf : FewO l) (hn : sc.length ≤ 100) :
    Calls Try.prog 18 #[.slice a l.length c, .slice b sc.length d, .string ⟨name.toArray⟩] w fun e w' => e = .returned (.bool (decide (0 ≤ (inL l name [] sc).1))) ∧ Below w.heap.size w w' := by
  have hm10 := hf.1
  have HL := Lib.hid hl
  have HS := Lib.hid hs
  have HSC := Lib.hid hsc
  have HFW := Lib.hid hf
  obtain ⟨rr, hr⟩ : ∃ r, decide (0 ≤ (inL l name [] sc).1) = r := ⟨_, rfl⟩
  have HR := Lib.hid (show decide (0 ≤ (inL l name [] (sc.drop 0)).1) = rr by simpa using hr)
  rw [hr]
  obtain ⟨n, hn1⟩ : ∃ n, sc.length = n := ⟨_, rfl⟩
  obtain ⟨m, hm1⟩ : ∃ m, l.length = m := ⟨_, rfl⟩
  have HN := Lib.hid hn1
  have HM := Lib.hid hm1
  rw [hn1] at HS hn ⊢
  rw [hm1] at hm10 ⊢
  clear hl hs hsc hf hr hn1 hm1
  go_enter Try.func18, Try.ntmps18
  go_wp2_with fail
  go_loopw [7] (fun i wr => ∃ k : Nat, i = .int .i64 k ∧ k ≤ n ∧ Hid (decide (0 ≤ (inL l name [] (sc.drop k)).1) = rr) ∧ Hid (Below w.heap.size w wr)) (fun i _ => n - (intOf i).toNat)
  case atStart => exact ⟨0, rfl, by omega, HR, Lib.hid (Below.refl _ _)⟩
  case round =>
    obtain ⟨k, rfl, hk, HRK, HB⟩ := hrel
    by_cases hlt : k < n
    · have hkl : k < sc.length := by rw [HN.out]; exact hlt
      obtain ⟨g, off, hge, -, hc⟩ := (HS.out.below HB.out).at_ hlt
      subst hge
      rw [ordV_get sc k hkl] at hc
      have hmem := List.getElem_mem hkl
      have hhit := inL_hit l name [] sc k hkl
      have hmis := inL_miss l name [] sc k hkl
      obtain ⟨o, ho⟩ : ∃ o, sc[k] = o := ⟨_, rfl⟩
      rw [ho] at hc hmem
      simp only [ho] at hhit hmis
      have hol : o < l.length := HSC.out _ hmem
      obtain ⟨gl, fl, sa, s2, hgl, x1, x3⟩ := HL.out.syms HB.out hol
      subst hgl
      obtain ⟨ls, hls⟩ : ∃ ls, symsAt l o = ls := ⟨_, rfl⟩
      have hq40 := (HFW.out.at_ o).1
      rw [hls] at hhit hmis x1 x3 hq40
      obtain ⟨r, hr⟩ : ∃ r, findZ ls name [] 0 = r := ⟨_, rfl⟩
      rw [hr] at hhit hmis
      obtain ⟨q, hq⟩ : ∃ q, ls.length = q := ⟨_, rfl⟩
      rw [hq] at x1 hq40
      have HY := Lib.hid (fun (h : 0 ≤ r) => show true = rr by rw [← HRK.out, hhit h]; simp)
      have HNO := Lib.hid (fun (h : ¬ 0 ≤ r) => show decide (0 ≤ (inL l name [] (sc.drop (k + 1))).1) = rr by rw [← hmis (by omega)]; exact HRK.out)
      have HRR := Lib.hid hr
      have HQ := Lib.hid hq
      have HX3 := Lib.hid x3
      have hom : o < m := by rw [← HM.out]; exact hol
      have kk0 : (0 : Int) ≤ (k : Int) := by omega
      have kk1 : (k : Int) < (n : Int) := by omega
      have oo0 : (0 : Int) ≤ (o : Int) := by omega
      have oo1 : (o : Int) < (m : Int) := by omega
      clear hmem hhit hmis ho hr hq x3 hls
      go_wp2_with fail
      go_loopw [9] (fun i w2 => ∃ j : Nat, i = .int .i64 j ∧ j ≤ q ∧ Hid (findZ ls name [] j = r) ∧ Hid (Below wr.heap.size wr w2)) (fun i _ => q - (intOf i).toNat)
      case atStart => exact ⟨0, rfl, by omega, HRR, Lib.hid (Below.refl _ _)⟩
      case round =>
        obtain ⟨j, rfl, hj, HJ, HB2⟩ := hrel
        by_cases hjq : j < q
        · have hjl : j < ls.length := by rw [HQ.out]; exact hjq
          obtain ⟨gs, fs, hgs, -, h8⟩ := (HX3.out.below HB2.out).at_ hjl
          subst hgs
          have hht := findZ_hit ls name [] j hjl
          have hmi := findZ_miss ls name [] j hjl
          obtain ⟨s, hse⟩ : ∃ s, ls[j] = s := ⟨_, rfl⟩
          rw [hse] at h8
          simp only [hse] at hht hmi
          have H8 := Lib.hid h8
          obtain ⟨z0, z1, z2, z3, z4, z5, z6, z7⟩ := h8
          have jj0 : (0 : Int) ≤ (j : Int) := by omega
          have jj1 : (j : Int) < (q : Int) := by omega
          clear hse
          go_wp2_with fail
          refine (rshown_sym s _).mono ?_; rintro e w3 ⟨rfl, hb3⟩
          obtain ⟨z0', -⟩ := H8.out.below hb3
          have HB3 := Lib.hid (bTrans HB2.out hb3)
          clear z0 z1 z2 z3 z4 z5 z6 z7 hb3
          obtain ⟨sh, hsh⟩ : ∃ sh, shownB s = sh := ⟨_, rfl⟩
          rw [hsh]
          cases sh with
          | false =>
            have HM2 := Lib.hid ((hmi (by unfold hitS; rw [hsh]; rfl)).symm.trans HJ.out)
            clear hht hmi hsh
            go_wp2_with fail
            go_roundw
            case rel => exact ⟨j + 1, by go_num, by omega, HM2, HB3⟩
            case measure => simp [intOf]; omega
          | true =>
            cases hnm : (s.name == name) with
            | true =>
              have hr0 : 0 ≤ r := by
                have := (hht (by unfold hitS isB; rw [hsh, hnm]; rfl)).symm.trans HJ.out
                omega
              have HE := Lib.hid (HY.out hr0)
              clear hht hmi hsh
              go_wp2_with fail
              go_ret
              exact ⟨by rw [← HE.out]; rfl, bTrans HB.out HB3.out⟩
            | false =>
              have HM2 := Lib.hid ((hmi (by unfold hitS isB; rw [hsh, hnm]; rfl)).symm.trans HJ.out)
              clear hht hmi hsh
              go_wp2_with fail
              go_roundw
              case rel => exact ⟨j + 1, by go_num, by omega, HM2, HB3⟩
              case measure => simp [intOf]; omega
        · have hr1 : r = -1 := HJ.out.symm.trans (findZ_end ls name [] j (by rw [HQ.out]; omega))
          have HK2 := Lib.hid (HNO.out (by omega))
          clear hr1
          go_wp2_with fail
          go_roundw
          case rel => exact ⟨k + 1, by go_num, by omega, HK2, Lib.hid (bTrans HB.out HB2.out)⟩
          case measure => simp [intOf]; omega
    · have he : false = rr := by
        rw [← HRK.out, inL_end l name [] sc k (by rw [HN.out]; omega)]; rfl
      subst he
      go_wp2_with fail
      go_ret
      exact ⟨rfl, HB.out⟩
end Go.Proofs.Ythammjpadbbflaa
