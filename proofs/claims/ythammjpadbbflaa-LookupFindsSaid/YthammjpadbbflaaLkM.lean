/- Short: contract. -/
import Derived.Test.YthammjpadbbflaaLkL
namespace Go.Proofs.Ythammjpadbbflaa
set_option linter.unusedVariables false
set_option linter.unusedSimpArgs false
open Go.Joins Go.ChangeShapes Go.WideShapes Go.ChangeAt Go.RowKit Go.Deep Go.Shelf

theorem few_of_short {l : List Ob} (h : shortB l = true) : FewO l ∧ ∀ x ∈ l, obOk x = true := by
  unfold shortB at h
  rw [Bool.and_eq_true] at h
  have h1 : l.length ≤ 10 := by have := h.1; simp at this; omega
  have h2 : ∀ x ∈ l, obOk x = true := List.all_eq_true.1 h.2
  refine ⟨⟨h1, fun x hx => ?_⟩, h2⟩
  have h3 := h2 x hx
  unfold obOk at h3
  rw [Bool.and_eq_true] at h3
  refine ⟨by have := h3.1; simp at this; omega, fun s hs => ?_⟩
  have h4 := List.all_eq_true.1 h3.2 s hs
  unfold symOk at h4
  simp at h4
  omega
set_option maxHeartbeats 2000000 in
set_option maxRecDepth 100000 in
theorem short_any (a : Option Addr) (c : Nat) (l : List Ob) (w : World) (hl : RdL w a l) (hm : l.length ≤ 9223372036854775807) :
    Calls Try.prog 12 #[.slice a l.length c] w fun e w' => e = .returned (.bool (shortB l)) ∧ Below w.heap.size w w' := by
  have HL := Lib.hid hl
  obtain ⟨r, hr⟩ : ∃ r, shortB l = r := ⟨_, rfl⟩
  rw [hr]
  obtain ⟨m, hm1⟩ : ∃ m, l.length = m := ⟨_, rfl⟩
  have HM := Lib.hid hm1
  have hr2 : (!decide ((10 : Int) < (m : Int)) && (l.drop 0).all obOk) = r := by rw [← hm1, List.drop_zero]; exact hr
  rw [hm1] at hm ⊢
  clear hl hr hm1
  go_enter Try.func12, Try.ntmps12
  cases h10 : decide ((10 : Int) < (m : Int)) with
  | true =>
    have he : false = r := by rw [← hr2, h10]; simp
    subst he
    clear hr2
    go_wp2_with fail
    go_ret
    exact ⟨rfl, Below.refl _ _⟩
  | false =>
    have HR := Lib.hid (show (l.drop 0).all obOk = r by rw [← hr2, h10]; simp)
    clear hr2
    go_wp2_with fail
    go_loopw [3] (fun i wr => ∃ k : Nat, i = .int .i64 k ∧ k ≤ m ∧ Hid ((l.drop k).all obOk = r) ∧ Hid (Below w.heap.size w wr)) (fun i _ => m - (intOf i).toNat)
    case atStart => exact ⟨0, rfl, by omega, HR, Lib.hid (Below.refl _ _)⟩
    case round =>
      obtain ⟨k, rfl, hk, HK, HB⟩ := hrel
      by_cases hlt : k < m
      · have hkl : k < l.length := by rw [HM.out]; exact hlt
        obtain ⟨gl, fl, hgl, -, hob⟩ := (HL.out.below HB.out).at_ hkl
        subst hgl
        obtain ⟨sa, s2, ra, rc, x1, x2, x3, x4, x5⟩ := hob
        have had := all_drop obOk l k hkl
        obtain ⟨x, hx⟩ : ∃ x, l[k] = x := ⟨_, rfl⟩
        rw [hx] at x1 x3
        simp only [hx] at had
        obtain ⟨ls, hls⟩ : ∃ ls, x.syms = ls := ⟨_, rfl⟩
        have hkk := HK.out
        rw [had] at hkk
        rw [show obOk x = (!decide ((40 : Int) < (x.syms.length : Int)) && x.syms.all symOk) from rfl] at hkk
        rw [hls] at x1 x3 hkk
        obtain ⟨q, hq⟩ : ∃ q, ls.length = q := ⟨_, rfl⟩
        rw [hq] at x1 hkk
        have HQ := Lib.hid hq
        have HX3 := Lib.hid x3
        have HX1 := Lib.hid x1
        have kk0 : (0 : Int) ≤ (k : Int) := by omega
        have kk1 : (k : Int) < (m : Int) := by omega
        clear had hx hls x2 x3 x4 x5 hkl HK hq
        cases h40 : decide ((40 : Int) < (q : Int)) with
        | true =>
          have he : false = r := by rw [← hkk, h40]; simp
          subst he
          clear hkk
          go_wp2_with fail
          go_ret
          exact ⟨rfl, HB.out⟩
        | false =>
          have HKK := Lib.hid (show ((ls.drop 0).all symOk && (l.drop (k + 1)).all obOk) = r by rw [← hkk, h40, List.drop_zero]; simp)
          have hq40 : ¬ (40 : Int) < (q : Int) := of_decide_eq_false h40
          clear hkk
          go_wp2_with fail
          clear x1
          go_loopw [4] (fun i w2 => ∃ j : Nat, i = .int .i64 j ∧ j ≤ q ∧ Hid (((ls.drop j).all symOk && (l.drop (k + 1)).all obOk) = r) ∧ Hid (Below wr.heap.size wr w2)) (fun i _ => q - (intOf i).toNat)
          case atStart => exact ⟨0, rfl, by omega, HKK, Lib.hid (Below.refl _ _)⟩
          case round =>
            obtain ⟨j, rfl, hj, HJ, HB2⟩ := hrel
            have x1 := (HB2.out.cell (heap_lt_of_cell HX1.out)).trans HX1.out
            by_cases hjq : j < q
            · have hjl : j < ls.length := by rw [HQ.out]; exact hjq
              obtain ⟨gs, fs, hgs, -, h8⟩ := (HX3.out.below HB2.out).at_ hjl
              subst hgs
              have had := all_drop symOk ls j hjl
              obtain ⟨s, hse⟩ : ∃ s, ls[j] = s := ⟨_, rfl⟩
              rw [hse] at h8
              simp only [hse] at had
              have hkk := HJ.out
              rw [had] at hkk
              obtain ⟨nm, vr, pl, sz, kd, bd, sn, df⟩ := s
              obtain ⟨z0, z1, z2, z3, z4, z5, z6, z7⟩ := h8
              simp only [] at z0 z1 z2 z3 z4 z5 z6 z7
              have jj0 : (0 : Int) ≤ (j : Int) := by omega
              have jj1 : (j : Int) < (q : Int) := by omega
              clear had hse hjl HJ
              cases c0 : decide (bd < 1) with
              | true =>
                have he : false = r := by rw [← hkk]; simp [symOk, c0]
                subst he
                clear hkk
                go_wp2_with fail
                go_ret
                exact ⟨rfl, bAlloc (bTrans HB.out HB2.out) _⟩
              | false =>
                cases c1 : decide (3 < bd) with
                | true =>
                  have he : false = r := by rw [← hkk]; simp [symOk, c0, c1]
                  subst he
                  clear hkk
                  go_wp2_with fail
                  go_ret
                  exact ⟨rfl, bAlloc (bTrans HB.out HB2.out) _⟩
                | false =>
                  cases c2 : decide (sn < 1) with
                  | true =>
                    have he : false = r := by rw [← hkk]; simp [symOk, c0, c1, c2]
                    subst he
                    clear hkk
                    go_wp2_with fail
                    go_ret
                    exact ⟨rfl, bAlloc (bTrans HB.out HB2.out) _⟩
                  | false =>
                    cases c3 : decide (2 < sn) with
                    | true =>
                      have he : false = r := by rw [← hkk]; simp [symOk, c0, c1, c2, c3]
                      subst he
                      clear hkk
                      go_wp2_with fail
                      go_ret
                      exact ⟨rfl, bAlloc (bTrans HB.out HB2.out) _⟩
                    | false =>
                      cases c4 : decide ((100 : Int) < (nm.length : Int)) with
                      | true =>
                        have he : false = r := by rw [← hkk]; simp [symOk, c0, c1, c2, c3, c4]
                        subst he
                        clear hkk
                        go_wp2_with fail
                        go_ret
                        exact ⟨rfl, bAlloc (bTrans HB.out HB2.out) _⟩
                      | false =>
                        have HK2 := Lib.hid (show ((ls.drop (j + 1)).all symOk && (l.drop (k + 1)).all obOk) = r by rw [← hkk]; simp [symOk, c0, c1, c2, c3, c4])
                        clear hkk
                        go_wp2_with fail
                        go_roundw
                        case rel => exact ⟨j + 1, by go_num, by omega, HK2, Lib.hid (bAlloc HB2.out _)⟩
                        case measure => simp [intOf]; omega
            · have HK2 := Lib.hid (show (l.drop (k + 1)).all obOk = r by rw [← HJ.out, all_drop_end symOk ls j (by rw [HQ.out]; omega)]; simp)
              go_wp2_with fail
              go_roundw
              case rel => exact ⟨k + 1, by go_num, by omega, HK2, Lib.hid (bTrans HB.out HB2.out)⟩
              case measure => simp [intOf]; omega
      · have he : true = r := by rw [← HK.out, all_drop_end _ _ _ (by rw [HM.out]; omega)]
        subst he
        clear HK
        go_wp2_with fail
        go_ret
        exact ⟨rfl, HB.out⟩
end Go.Proofs.Ythammjpadbbflaa
