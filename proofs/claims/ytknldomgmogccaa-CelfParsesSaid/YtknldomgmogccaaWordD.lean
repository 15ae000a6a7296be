/- Contracts of package word's functions on bytes, and of the document's own. -/
import Derived.Test.YtknldomgmogccaaWordC
import Derived.Test.YtknldomgmogccaaMem
import Derived.Test.YtknldomgmogccaaWb
import Derived.Outline
import Derived.Maps.AppendAt
namespace Go.Proofs.Ytknldomgmogccaa
set_option linter.unusedSimpArgs false
set_option linter.unusedVariables false
open Go.ChangeShapes Go.WideShapes Go.ChangeAt Go.RowKit

theorem infoU8 : (Try.prog.info? 5).map (fun i => (i.zero, i.size, i.bytes)) = some (some (.int .u8 0), 1, 1) := by kernel_rfl
theorem of_any (a : Option Addr) (n c : Nat) (l : List Nat) (w : World) (hr : Rd w a n (u8s l)) (hb : ∀ b ∈ l, b < 256) (hn : n ≤ 9223372036854775807) :
    Calls Try.prog 73 #[.slice a n c] w fun e w' => e = .returned (.int .u64 ((ofB l : Nat) : Int)) ∧ w = w' := by
  have hl : l.length = n := by rw [← u8s_length]; exact hr.1
  have HR := Lib.hid hr
  have HB := Lib.hid hb
  have HL := Lib.hid hl
  clear hb hl hr
  go_enter Try.func73, Try.ntmps73
  go_wp2
  all_goals
    go_loop [3, 8] (fun x i => ∃ k : Nat, k ≤ n ∧ k ≤ 8 ∧ i = .int .i64 k ∧ x = .int .u64 ((ofN (l.take k) : Nat) : Int)) (fun _ i => 8 - (intOf i).toNat)
    case atStart => exact ⟨0, by omega, by omega, rfl, rfl⟩
    case round =>
      obtain ⟨k, hk, h8, rfl, rfl⟩ := hrel
      by_cases hlt : k < n ∧ k < 8
      · obtain ⟨h1, h2⟩ := hlt
        have hkl : k < l.length := by rw [HL.out]; exact h1
        have ST := Lib.hid (of_step l k HB.out hkl h2)
        have h256 : l[k] < 256 := HB.out _ (List.getElem_mem hkl)
        obtain ⟨b, off, rfl, _, hc⟩ := HR.out.at_ h1
        rw [u8s_get l k hkl] at hc
        go_wp2
        go_round
        case rel => exact ⟨k + 1, by omega, by omega, by go_num, by rw [ST.out]⟩
        case measure => simp [intOf]; try omega
      · have E : ofN (l.take k) = ofB l := by
          unfold ofB
          rcases Nat.lt_or_ge k 8 with h | h
          · rw [List.take_of_length_le (by rw [HL.out]; omega), List.take_of_length_le (by rw [HL.out]; omega)]
          · rw [show k = 8 by omega]
        have HE := Lib.hid E
        clear E
        go_wp2
        go_ret
        exact ⟨ret_int (by rw [HE.out]), rfl⟩
theorem rof_any (a : Option Addr) (n c : Nat) (l : List Nat) (w : World) (hr : Rd w a n (u8s l)) (hb : ∀ b ∈ l, b < 256) (hn : n ≤ 9223372036854775807) :
    Calls Try.prog 48 #[.slice a n c] w fun e w' => e = .returned (.int .u64 ((ofB l : Nat) : Int)) ∧ w = w' := by
  have hl : l.length = n := by rw [← u8s_length]; exact hr.1
  have HR := Lib.hid hr
  have HB := Lib.hid hb
  have HL := Lib.hid hl
  clear hb hl hr
  go_enter Try.func48, Try.ntmps48
  go_wp2
  go_loop [3, 4, 5] (fun x t i => ∃ k : Nat, k ≤ n ∧ k ≤ 8 ∧ i = .int .i64 k ∧ t = .int .u64 (timesZ k) ∧ x = .int .u64 ((ofN (l.take k) : Nat) : Int)) (fun _ _ i => 8 - (intOf i).toNat)
  case atStart => exact ⟨0, by omega, by omega, rfl, rfl, rfl⟩
  case round =>
    obtain ⟨k, hk, h8, rfl, rfl, rfl⟩ := hrel
    by_cases hlt : k < n ∧ k < 8
    · obtain ⟨h1, h2⟩ := hlt
      have hkl : k < l.length := by rw [HL.out]; exact h1
      have ST := Lib.hid (rof_step l k HB.out hkl h2)
      have TS := Lib.hid (times_step k)
      have h256 : l[k] < 256 := HB.out _ (List.getElem_mem hkl)
      obtain ⟨b, off, rfl, _, hc⟩ := HR.out.at_ h1
      rw [u8s_get l k hkl] at hc
      have t1 : decide (k < n) = true := decide_eq_true h1
      have t2 : decide (k < 8) = true := decide_eq_true h2
      go_wp2
      go_round
      case rel => exact ⟨k + 1, by omega, by omega, by go_num, by rw [TS.out], by rw [ST.out]⟩
      case measure => simp [intOf]; try omega
    · have E : ofN (l.take k) = ofB l := by
        unfold ofB
        rcases Nat.lt_or_ge k 8 with h | h
        · rw [List.take_of_length_le (by rw [HL.out]; omega), List.take_of_length_le (by rw [HL.out]; omega)]
        · rw [show k = 8 by omega]
      have HE := Lib.hid E
      clear E
      go_wp2
      all_goals
        go_ret
        exact ⟨ret_int (by rw [HE.out]), rfl⟩
/-- two lists, held against one another -/
theorem same_any (a b : Option Addr) (n c m d : Nat) (l r : List Nat) (w : World) (hl : Rd w a n (u8s l)) (hr : Rd w b m (u8s r)) (hn : n ≤ 9223372036854775807) (hm : m ≤ 9223372036854775807) :
    Calls Try.prog 23 #[.slice a n c, .slice b m d] w fun e w' => e = .returned (.bool (decide (l = r))) ∧ Quiet w w' := by
  have h1 : l.length = n := by rw [← u8s_length]; exact hl.1
  have h2 : r.length = m := by rw [← u8s_length]; exact hr.1
  by_cases hnm : n = m
  · subst hnm
    have HL := Lib.hid hl
    have HR := Lib.hid hr
    have H1 := Lib.hid h1
    have H2 := Lib.hid h2
    clear hl hr h1 h2
    go_enter Try.func23, Try.ntmps23
    go_wp2
    go_loopw [5] (fun i wr => ∃ k : Nat, k ≤ n ∧ i = .int .i64 k ∧ l.take k = r.take k ∧ Quiet w wr) (fun i _ => n - (intOf i).toNat)
    case atStart => exact ⟨0, by omega, rfl, rfl, Quiet.refl _⟩
    case round =>
      obtain ⟨k, hk, rfl, htk, hq⟩ := hrel
      have HT := Lib.hid htk
      obtain ⟨nq, rfl⟩ := hq
      clear htk
      by_cases hlt : k < n
      · have k1 : k < l.length := by rw [H1.out]; exact hlt
        have k2 : k < r.length := by rw [H2.out]; exact hlt
        obtain ⟨b1, o1, rfl, _, c1⟩ := HL.out.at_ hlt
        obtain ⟨b2, o2, rfl, _, c2⟩ := HR.out.at_ hlt
        rw [u8s_get l k k1] at c1
        rw [u8s_get r k k2] at c2
        go_wp2
        go_quiet (fail)
        go_wp2
        · have hne : (((l[k] : Nat) : Int) != ((r[k] : Nat) : Int)) = true := by assumption
          rw [ne_bool, decide_eq_true_iff] at hne
          have E : decide (l = r) = false := decide_eq_false fun e => by subst e; exact hne rfl
          go_ret
          exact ⟨ret_bool E.symm, _, World.drewN_drewN _ _ _⟩
        · have hne : (((l[k] : Nat) : Int) != ((r[k] : Nat) : Int)) = false := by assumption
          rw [ne_bool, decide_eq_false_iff_not, Decidable.not_not] at hne
          go_roundw
          case rel => exact ⟨k + 1, by omega, by go_num, by rw [take_snoc l k k1, take_snoc r k k2, HT.out, hne], _, rfl⟩
          case measure => simp [intOf]; try omega
      · have E : decide (l = r) = true := decide_eq_true (by
          have := HT.out
          rw [List.take_of_length_le (by rw [H1.out]; omega), List.take_of_length_le (by rw [H2.out]; omega)] at this
          exact this)
        have HE := Lib.hid E
        clear E
        go_wp2
        go_ret
        exact ⟨ret_bool HE.out.symm, nq, rfl⟩
  · have E : decide (l = r) = false := decide_eq_false fun e => by subst e; omega
    have ne : ((n : Int) != (m : Int)) = true := by rw [bne_iff_ne]; omega
    have HE := Lib.hid E
    clear E hl hr h1 h2 hnm
    go_enter Try.func23, Try.ntmps23
    go_wp2
    go_ret
    exact ⟨ret_bool HE.out.symm, Quiet.refl _⟩
end Go.Proofs.Ytknldomgmogccaa
