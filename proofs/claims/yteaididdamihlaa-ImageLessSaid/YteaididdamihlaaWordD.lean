/- Contracts of package word's functions on bytes, and of the document's own. -/
import Derived.Test.YteaididdamihlaaWordC
import Derived.Test.YteaididdamihlaaMem
import Derived.Test.YteaididdamihlaaWb
import Derived.Outline
import Derived.Maps.AppendAt
namespace Go.Proofs.Yteaididdamihlaa
set_option linter.unusedSimpArgs false
set_option linter.unusedVariables false
open Go.ChangeShapes Go.WideShapes Go.ChangeAt Go.RowKit

theorem infoU8 : (Try.prog.info? 5).map (fun i => (i.zero, i.size, i.bytes)) = some (some (.int .u8 0), 1, 1) := by kernel_rfl
/-- two lists, held against one another -/
theorem same_any (a b : Option Addr) (n c m d : Nat) (l r : List Nat) (w : World) (hl : Rd w a n (u8s l)) (hr : Rd w b m (u8s r)) (hn : n ≤ 9223372036854775807) (hm : m ≤ 9223372036854775807) :
    Calls Try.prog 18 #[.slice a n c, .slice b m d] w fun e w' => e = .returned (.bool (decide (l = r))) ∧ Quiet w w' := by
  have h1 : l.length = n := by rw [← u8s_length]; exact hl.1
  have h2 : r.length = m := by rw [← u8s_length]; exact hr.1
  by_cases hnm : n = m
  · subst hnm
    have HL := Lib.hid hl
    have HR := Lib.hid hr
    have H1 := Lib.hid h1
    have H2 := Lib.hid h2
    clear hl hr h1 h2
    go_enter Try.func18, Try.ntmps18
    go_wp2
    go_loopw [5] (fun i wr => ∃ k : Nat, k ≤ n ∧ i = .int .i64 k ∧ l.take k = r.take k ∧ Quiet w wr) (fun i _ => n - (intOf i).toNat)
    case atStart => exact ⟨0, by omega, rfl, rfl, Quiet.refl _⟩
    case round =>
      obtain ⟨k, hk, rfl, htk, hq⟩ := hrel
      have HT := Lib.hid htk
      obtain ⟨nq, rfl⟩ := hq
      clear htk
      by_cases hlt : k < n
      · have k1 : k < l.length := by rw [H1.out]; exact hlt
        have k2 : k < r.length := by rw [H2.out]; exact hlt
        obtain ⟨b1, o1, rfl, _, c1⟩ := HL.out.at_ hlt
        obtain ⟨b2, o2, rfl, _, c2⟩ := HR.out.at_ hlt
        rw [u8s_get l k k1] at c1
        rw [u8s_get r k k2] at c2
        go_wp2
        go_quiet (fail)
        go_wp2
        · have hne : (((l[k] : Nat) : Int) != ((r[k] : Nat) : Int)) = true := by assumption
          rw [ne_bool, decide_eq_true_iff] at hne
          have E : decide (l = r) = false := decide_eq_false fun e => by subst e; exact hne rfl
          go_ret
          exact ⟨ret_bool E.symm, _, World.drewN_drewN _ _ _⟩
        · have hne : (((l[k] : Nat) : Int) != ((r[k] : Nat) : Int)) = false := by assumption
          rw [ne_bool, decide_eq_false_iff_not, Decidable.not_not] at hne
          go_roundw
          case rel => exact ⟨k + 1, by omega, by go_num, by rw [take_snoc l k k1, take_snoc r k k2, HT.out, hne], _, rfl⟩
          case measure => simp [intOf]; try omega
      · have E : decide (l = r) = true := decide_eq_true (by
          have := HT.out
          rw [List.take_of_length_le (by rw [H1.out]; omega), List.take_of_length_le (by rw [H2.out]; omega)] at this
          exact this)
        have HE := Lib.hid E
        clear E
        go_wp2
        go_ret
        exact ⟨ret_bool HE.out.symm, nq, rfl⟩
  · have E : decide (l = r) = false := decide_eq_false fun e => by subst e; omega
    have ne : ((n : Int) != (m : Int)) = true := by rw [bne_iff_ne]; omega
    have HE := Lib.hid E
    clear E hl hr h1 h2 hnm
    go_enter Try.func18, Try.ntmps18
    go_wp2
    go_ret
    exact ⟨ret_bool HE.out.symm, Quiet.refl _⟩
end Go.Proofs.Yteaididdamihlaa
