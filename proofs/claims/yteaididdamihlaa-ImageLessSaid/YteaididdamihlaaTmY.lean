/- The document's Same of two lists of numbers, and Right of a capability: contracts. -/
import Derived.Test.YteaididdamihlaaTmQ
import Derived.Deep.QuietTactic
namespace Go.Proofs.Yteaididdamihlaa
set_option linter.unusedVariables false
set_option linter.unusedSimpArgs false
open Go.Joins Go.ChangeShapes Go.WideShapes Go.ChangeAt Go.RowKit Go.Deep

theorem usame_any (a b : Option Addr) (n c m d : Nat) (l r : List Nat) (w : World) (hl : Rd w a n (u64s l)) (hr : Rd w b m (u64s r)) (hn : n < 9223372036854775808) (hm : m < 9223372036854775808) :
    Calls Try.prog 17 #[.slice a n c, .slice b m d] w fun e w' => e = .returned (.bool (decide (l = r))) ∧ Below w.heap.size w w' := by
  have h1 : l.length = n := by rw [← u64s_length]; exact hl.1
  have h2 : r.length = m := by rw [← u64s_length]; exact hr.1
  obtain ⟨q, hq⟩ : ∃ q, decide (l = r) = q := ⟨_, rfl⟩
  rw [hq]
  have HQ := Lib.hid hq
  clear hq
  by_cases hnm : n = m
  · subst hnm
    have HL := Lib.hid hl
    have HR := Lib.hid hr
    have H1 := Lib.hid h1
    have H2 := Lib.hid h2
    clear hl hr h1 h2
    go_enter Try.func17, Try.ntmps17
    go_wp2_with fail
    go_loopw [5] (fun i wr => ∃ k : Nat, i = .int .i64 k ∧ k ≤ n ∧ Hid (l.take k = r.take k) ∧ Hid (Below w.heap.size w wr)) (fun i _ => n - (intOf i).toNat)
    case atStart => exact ⟨0, rfl, by omega, Lib.hid rfl, Lib.hid (Below.refl _ _)⟩
    case round =>
      obtain ⟨k, rfl, hk, HT, HB⟩ := hrel
      by_cases hlt : k < n
      · have k1 : k < l.length := by rw [H1.out]; exact hlt
        have k2 : k < r.length := by rw [H2.out]; exact hlt
        obtain ⟨b1, o1, rfl, _, c1⟩ := (HL.out.below HB.out).at_ hlt
        obtain ⟨b2, o2, rfl, _, c2⟩ := (HR.out.below HB.out).at_ hlt
        rw [u64s_get l k k1] at c1
        rw [u64s_get r k k2] at c2
        have t1 := List.take_succ_eq_append_getElem k1
        have t2 := List.take_succ_eq_append_getElem k2
        have HNE := Lib.hid (fun (h : l[k] ≠ r[k]) (e : l = r) => h (by subst e; rfl))
        obtain ⟨x, hx⟩ : ∃ x, l[k] = x := ⟨_, rfl⟩
        obtain ⟨y, hy⟩ : ∃ y, r[k] = y := ⟨_, rfl⟩
        rw [hx] at c1 t1 HNE
        rw [hy] at c2 t2 HNE
        have T1 := Lib.hid t1
        have T2 := Lib.hid t2
        have kk0 : (0 : Int) ≤ (k : Int) := by omega
        have kk1 : (k : Int) < (n : Int) := by omega
        clear hx hy t1 t2 k1 k2
        by_cases hxy : x = y
        · subst hxy
          have HT2 : Hid (l.take (k + 1) = r.take (k + 1)) := Lib.hid (by rw [T1.out, T2.out, HT.out])
          go_wp2_with fail
          go_quiet (fail)
          go_wp2_with fail
          go_roundw
          case rel => exact ⟨k + 1, by go_num, by omega, HT2, Lib.hid (bTrans HB.out (below_dN _ _))⟩
          case measure => simp [intOf]; omega
        · have hqf : false = q := by rw [← HQ.out]; exact (decide_eq_false (HNE.out hxy)).symm
          subst hqf
          have n1 : ((x : Int) != (y : Int)) = true := by simp; omega
          have n2 : ¬ (x : Int) = (y : Int) := by omega
          have n3 : ((x : Int) == (y : Int)) = false := by simp; omega
          go_wp2_with fail
          go_quiet (fail)
          go_wp2_with fail
          go_ret
          exact ⟨rfl, bTrans HB.out (below_dN _ _)⟩
      · obtain rfl : n = k := by omega
        have hqt : true = q := by
          rw [← HQ.out]
          symm
          refine decide_eq_true ?_
          have := HT.out
          rwa [List.take_of_length_le (by rw [H1.out]; exact Nat.le_refl _), List.take_of_length_le (by rw [H2.out]; exact Nat.le_refl _)] at this
        subst hqt
        go_wp2_with fail
        go_ret
        exact ⟨rfl, HB.out⟩
  · have hqf : false = q := by rw [← HQ.out]; exact (decide_eq_false (fun e => hnm (by rw [← h1, ← h2, e]))).symm
    subst hqf
    have n1 : ((n : Int) != (m : Int)) = true := by simp; omega
    have n2 : ¬ (n : Int) = (m : Int) := by omega
    clear h1 h2 hl hr
    go_enter Try.func17, Try.ntmps17
    go_wp2_with fail
    go_ret
    exact ⟨rfl, Below.refl _ _⟩
end Go.Proofs.Yteaididdamihlaa
