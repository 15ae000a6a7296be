/- Lists of numbers: contracts of Numbers and of slices.Equal. -/
import Derived.Test.YthammjpadbbflaaHasA
import Derived.Test.YthammjpadbbflaaWb
import Derived.LoopTactic
import Derived.Deep.QuietTactic
import Derived.BigQuiet
namespace Go.Proofs.Ythammjpadbbflaa
set_option linter.unusedVariables false
set_option linter.unusedSimpArgs false
open Go.Joins Go.ChangeShapes Go.WideShapes Go.ChangeAt Go.RowKit

def i64s (l : List Int) : List Value := l.map fun x => Value.int .i64 x
theorem i64s_length (l : List Int) : (i64s l).length = l.length := by simp [i64s]
theorem i64s_get (l : List Int) (k : Nat) (h : k < l.length) : (i64s l)[k]? = some (.int .i64 l[k]) := by simp [i64s, h]
/-- two lists of numbers, held against one another -/
theorem numbers_any (a b : Option Addr) (n c m d : Nat) (l r : List Int) (w : World) (hl : Rd w a n (i64s l)) (hr : Rd w b m (i64s r)) (hn : n ≤ 9223372036854775807) (hm : m ≤ 9223372036854775807) :
    Calls Try.prog 38 #[.slice a n c, .slice b m d] w fun e w' => e = .returned (.bool (decide (l = r))) ∧ Quiet w w' := by
  have h1 : l.length = n := by rw [← i64s_length]; exact hl.1
  have h2 : r.length = m := by rw [← i64s_length]; exact hr.1
  by_cases hnm : n = m
  · subst hnm
    have HL := Lib.hid hl
    have HR := Lib.hid hr
    have H1 := Lib.hid h1
    have H2 := Lib.hid h2
    clear hl hr h1 h2
    go_enter Try.func38, Try.ntmps38
    go_wp2
    go_loopw [5] (fun i wr => ∃ k : Nat, k ≤ n ∧ i = .int .i64 k ∧ l.take k = r.take k ∧ Quiet w wr) (fun i _ => n - (intOf i).toNat)
    case atStart => exact ⟨0, by omega, rfl, rfl, Quiet.refl _⟩
    case round =>
      obtain ⟨k, hk, rfl, htk, hq⟩ := hrel
      have HT := Lib.hid htk
      obtain ⟨nq, rfl⟩ := hq
      clear htk
      by_cases hlt : k < n
      · have k1 : k < l.length := by rw [H1.out]; exact hlt
        have k2 : k < r.length := by rw [H2.out]; exact hlt
        obtain ⟨b1, o1, rfl, _, c1⟩ := HL.out.at_ hlt
        obtain ⟨b2, o2, rfl, _, c2⟩ := HR.out.at_ hlt
        rw [i64s_get l k k1] at c1
        rw [i64s_get r k k2] at c2
        go_wp2
        go_quiet (fail)
        go_wp2
        · have hne : (l[k] != r[k]) = true := by assumption
          rw [bne_iff_ne] at hne
          have E : decide (l = r) = false := decide_eq_false fun e => by subst e; exact hne rfl
          go_ret
          exact ⟨ret_bool E.symm, _, World.drewN_drewN _ _ _⟩
        · have hne : (l[k] != r[k]) = false := by assumption
          rw [bne_eq_false_iff_eq] at hne
          go_roundw
          case rel => exact ⟨k + 1, by omega, by go_num, by rw [take_snoc l k k1, take_snoc r k k2, HT.out, hne], _, rfl⟩
          case measure => simp [intOf]; try omega
      · have E : decide (l = r) = true := decide_eq_true (by
          have := HT.out
          rw [List.take_of_length_le (by rw [H1.out]; omega), List.take_of_length_le (by rw [H2.out]; omega)] at this
          exact this)
        have HE := Lib.hid E
        clear E
        go_wp2
        go_ret
        exact ⟨ret_bool HE.out.symm, nq, rfl⟩
  · have E : decide (l = r) = false := decide_eq_false fun e => by subst e; omega
    have ne : ((n : Int) != (m : Int)) = true := by rw [bne_iff_ne]; omega
    have HE := Lib.hid E
    clear E hl hr h1 h2 hnm
    go_enter Try.func38, Try.ntmps38
    go_wp2
    go_ret
    exact ⟨ret_bool HE.out.symm, Quiet.refl _⟩
end Go.Proofs.Ythammjpadbbflaa
