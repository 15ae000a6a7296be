/- Contracts of package word's functions on bytes, and of the document's own. -/
import Derived.Test.YtdpmihlmfephiaaGreatDoorWordC
import Derived.Test.YtdpmihlmfephiaaGreatDoorMem
import Derived.Test.YtdpmihlmfephiaaGreatDoorWb
import Derived.Outline
import Derived.Maps.AppendAt
namespace Go.Proofs.YtdpmihlmfephiaaGreatDoor
set_option linter.unusedSimpArgs false
set_option linter.unusedVariables false
open Go.ChangeShapes Go.WideShapes Go.ChangeAt Go.RowKit

theorem infoU8 : (Tryz.prog.info? 5).map (fun i => (i.zero, i.size, i.bytes)) = some (some (.int .u8 0), 1, 1) := by kernel_rfl
theorem wof_any (a : Option Addr) (n c : Nat) (l : List Nat) (w : World) (hr : Rd w a n (u8s l)) (hb : ∀ b ∈ l, b < 256) (hn : n ≤ 9223372036854775807) :
    Calls Tryz.prog 52 #[.slice a n c] w fun e w' => e = .returned (.int .u64 ((ofB l : Nat) : Int)) ∧ w = w' := by
  have hl : l.length = n := by rw [← u8s_length]; exact hr.1
  have HR := Lib.hid hr
  have HB := Lib.hid hb
  have HL := Lib.hid hl
  clear hb hl hr
  go_enter Tryz.func52, Tryz.ntmps52
  go_wp2
  all_goals
    go_loop [3, 8] (fun x i => ∃ k : Nat, k ≤ n ∧ k ≤ 8 ∧ i = .int .i64 k ∧ x = .int .u64 ((ofN (l.take k) : Nat) : Int)) (fun _ i => 8 - (intOf i).toNat)
    case atStart => exact ⟨0, by omega, by omega, rfl, rfl⟩
    case round =>
      obtain ⟨k, hk, h8, rfl, rfl⟩ := hrel
      by_cases hlt : k < n ∧ k < 8
      · obtain ⟨h1, h2⟩ := hlt
        have hkl : k < l.length := by rw [HL.out]; exact h1
        have ST := Lib.hid (of_step l k HB.out hkl h2)
        have h256 : l[k] < 256 := HB.out _ (List.getElem_mem hkl)
        obtain ⟨b, off, rfl, _, hc⟩ := HR.out.at_ h1
        rw [u8s_get l k hkl] at hc
        go_wp2
        go_round
        case rel => exact ⟨k + 1, by omega, by omega, by go_num, by rw [ST.out]⟩
        case measure => simp [intOf]; try omega
      · have E : ofN (l.take k) = ofB l := by
          unfold ofB
          rcases Nat.lt_or_ge k 8 with h | h
          · rw [List.take_of_length_le (by rw [HL.out]; omega), List.take_of_length_le (by rw [HL.out]; omega)]
          · rw [show k = 8 by omega]
        have HE := Lib.hid E
        clear E
        go_wp2
        go_ret
        exact ⟨ret_int (by rw [HE.out]), rfl⟩
/-- two lists, held against one another -/
theorem same_any (a b : Option Addr) (n c m d : Nat) (l r : List Nat) (w : World) (hl : Rd w a n (u8s l)) (hr : Rd w b m (u8s r)) (hn : n ≤ 9223372036854775807) (hm : m ≤ 9223372036854775807) :
    Calls Tryz.prog 19 #[.slice a n c, .slice b m d] w fun e w' => e = .returned (.bool (decide (l = r))) ∧ Quiet w w' := by
  have h1 : l.length = n := by rw [← u8s_length]; exact hl.1
  have h2 : r.length = m := by rw [← u8s_length]; exact hr.1
  by_cases hnm : n = m
  · subst hnm
    have HL := Lib.hid hl
    have HR := Lib.hid hr
    have H1 := Lib.hid h1
    have H2 := Lib.hid h2
    clear hl hr h1 h2
    go_enter Tryz.func19, Tryz.ntmps19
    go_wp2
    go_loopw [5] (fun i wr => ∃ k : Nat, k ≤ n ∧ i = .int .i64 k ∧ l.take k = r.take k ∧ Quiet w wr) (fun i _ => n - (intOf i).toNat)
    case atStart => exact ⟨0, by omega, rfl, rfl, Quiet.refl _⟩
    case round =>
      obtain ⟨k, hk, rfl, htk, hq⟩ := hrel
      have HT := Lib.hid htk
      obtain ⟨nq, rfl⟩ := hq
      clear htk
      by_cases hlt : k < n
      · have k1 : k < l.length := by rw [H1.out]; exact hlt
        have k2 : k < r.length := by rw [H2.out]; exact hlt
        obtain ⟨b1, o1, rfl, _, c1⟩ := HL.out.at_ hlt
        obtain ⟨b2, o2, rfl, _, c2⟩ := HR.out.at_ hlt
        rw [u8s_get l k k1] at c1
        rw [u8s_get r k k2] at c2
        go_wp2
        go_quiet (fail)
        go_wp2
        · have hne : (((l[k] : Nat) : Int) != ((r[k] : Nat) : Int)) = true := by assumption
          rw [ne_bool, decide_eq_true_iff] at hne
          have E : decide (l = r) = false := decide_eq_false fun e => by subst e; exact hne rfl
          go_ret
          exact ⟨ret_bool E.symm, _, World.drewN_drewN _ _ _⟩
        · have hne : (((l[k] : Nat) : Int) != ((r[k] : Nat) : Int)) = false := by assumption
          rw [ne_bool, decide_eq_false_iff_not, Decidable.not_not] at hne
          go_roundw
          case rel => exact ⟨k + 1, by omega, by go_num, by rw [take_snoc l k k1, take_snoc r k k2, HT.out, hne], _, rfl⟩
          case measure => simp [intOf]; try omega
      · have E : decide (l = r) = true := decide_eq_true (by
          have := HT.out
          rw [List.take_of_length_le (by rw [H1.out]; omega), List.take_of_length_le (by rw [H2.out]; omega)] at this
          exact this)
        have HE := Lib.hid E
        clear E
        go_wp2
        go_ret
        exact ⟨ret_bool HE.out.symm, nq, rfl⟩
  · have E : decide (l = r) = false := decide_eq_false fun e => by subst e; omega
    have ne : ((n : Int) != (m : Int)) = true := by rw [bne_iff_ne]; omega
    have HE := Lib.hid E
    clear E hl hr h1 h2 hnm
    go_enter Tryz.func19, Tryz.ntmps19
    go_wp2
    go_ret
    exact ⟨ret_bool HE.out.symm, Quiet.refl _⟩
theorem little_any (x n : Int) (w : World) (hx0 : 0 ≤ x) (hx1 : x < 18446744073709551616) :
    Calls Tryz.prog 44 #[.int .u64 x, .int .i64 n] w fun e w' => ∃ v, e = .returned v ∧ w'.ownsRow w.heap.size 5 1 v (littleZ x n).length (u8s (littleZ x n)) ∧ Below w.heap.size w w' := by
  by_cases hg : n < 1 ∨ 8 < n
  · have hz : littleZ x n = [] := by unfold littleZ; rw [if_pos hg]
    rw [hz]
    clear hz hx0 hx1
    rcases hg with h | h
    all_goals
      go_enter Tryz.func44, Tryz.ntmps44
      go_wp2
      all_goals
        go_ret
        exact ⟨_, rfl, World.ownsRow_nil _ _ _ _, Below.refl _ _⟩
  · have hz : littleZ x n = littleN x.toNat n.toNat := by unfold littleZ; rw [if_neg hg]
    rw [hz, littleN_length]
    clear hz
    obtain ⟨x, rfl⟩ := Int.eq_ofNat_of_zero_le hx0
    obtain ⟨n, rfl⟩ := Int.eq_ofNat_of_zero_le (show 0 ≤ n by omega)
    rw [Int.toNat_natCast, Int.toNat_natCast]
    have a3 : decide ((n : Int) < 1) = false := by simp; omega
    have a4 : decide (8 < (n : Int)) = false := by simp; omega
    have b1 : 1 ≤ n := by omega
    have b2 : n ≤ 8 := by omega
    clear hg hx0
    have hmk := run_make_row' (P := Tryz.prog) 32 5 (.int .u8 0) 1 Tryz.underlying32 (by kernel_rfl) rfl .i64 .i64 n (by omega) (by omega)
    go_enter Tryz.func44, Tryz.ntmps44
    go_wp2
    clear hmk a3 a4
    go_loopw [16] (fun i wr => ∃ k : Nat, k ≤ n ∧ i = .int .i64 k ∧ wr.ownsRow w.heap.size 5 1 (.slice (some ⟨w.heap.size, 0, none⟩) n n) n (fillN x n k) ∧ Below w.heap.size w wr) (fun i _ => n - (intOf i).toNat)
    case atStart =>
      refine ⟨0, by omega, rfl, ?_, (Below.refl _ _).alloc (Nat.le_refl _) _⟩
      have := World.ownsRow_lit (e := 5) (size := 1) w (madeCells #[.int .u8 0] n) n (Nat.le_refl _) (by unfold maxLen; omega) (by rw [size_made1]; omega)
      rw [fill_start, ← toList_madeCells_one]
      exact this
    case round =>
      obtain ⟨k, hk, rfl, hown, hbel⟩ := hrel
      by_cases hlt : k < n
      · have hc := hown.cellAt k (by omega)
        have hf := hown.frozenAt k
        have hst := hown.stored k (.int .u8 ((byteN x k : Nat) : Int))
        rw [fill_step x n k hlt] at hst
        have HS := Lib.hid hst
        have HB := Lib.hid hbel
        have HBF := Lib.hid (byte_form x k)
        have hcc : (fillN x n k)[k]? = some (.int .u8 0) := by simp [fillN, hlt]
        rw [hcc] at hc
        clear hst hbel hown hcc
        go_wp2
        rw [HBF.out]
        go_roundw
        case rel => exact ⟨k + 1, by omega, by go_num, HS.out.1, HB.out.setCell (Nat.le_refl _) _⟩
        case measure => simp [intOf]; try omega
      · obtain rfl : k = n := by omega
        rw [fill_end] at hown
        have HO := Lib.hid hown
        have HB := Lib.hid hbel
        clear hown hbel
        go_wp2
        go_ret
        exact ⟨_, rfl, HO.out, HB.out⟩
theorem rlittle_any (x n : Int) (w : World) (hx0 : 0 ≤ x) (hx1 : x < 18446744073709551616) :
    Calls Tryz.prog 50 #[.int .u64 x, .int .i64 n] w fun e w' => ∃ v, e = .returned v ∧ w'.ownsRow w.heap.size 5 1 v (littleZ x n).length (u8s (littleZ x n)) ∧ Below w.heap.size w w' := by
  by_cases hg : n < 1 ∨ 8 < n
  · have hz : littleZ x n = [] := by unfold littleZ; rw [if_pos hg]
    rw [hz]
    clear hz hx0 hx1
    rcases hg with h | h
    · have a4 : decide (8 < n) = false := by simp; omega
      have a5 : decide (0 < n) = false := by simp; omega
      clear h
      go_enter Tryz.func50, Tryz.ntmps50
      go_wp2
      go_loop [5, 6] (fun v i => v = .slice none 0 0 ∧ i = .int .i64 0) (fun _ i => 0)
      case atStart => exact ⟨rfl, rfl⟩
      case round =>
        obtain ⟨rfl, rfl⟩ := hrel
        go_wp2
        go_ret
        exact ⟨_, rfl, World.ownsRow_nil _ _ _ _, Below.refl _ _⟩
    · go_enter Tryz.func50, Tryz.ntmps50
      go_wp2
      go_ret
      exact ⟨_, rfl, World.ownsRow_nil _ _ _ _, Below.refl _ _⟩
  · have hz : littleZ x n = littleN x.toNat n.toNat := by unfold littleZ; rw [if_neg hg]
    rw [hz, littleN_length]
    clear hz
    obtain ⟨x, rfl⟩ := Int.eq_ofNat_of_zero_le hx0
    obtain ⟨n, rfl⟩ := Int.eq_ofNat_of_zero_le (show 0 ≤ n by omega)
    rw [Int.toNat_natCast, Int.toNat_natCast]
    have a4 : decide (8 < (n : Int)) = false := by simp; omega
    have hn : n ≤ 8 := by omega
    have HX := Lib.hid hx1
    clear hg hx0 hx1
    go_enter Tryz.func50, Tryz.ntmps50
    go_wp2
    clear a4
    obtain ⟨i0, hz⟩ := info_parts infoU8
    have HI := Lib.hid hz
    clear hz
    go_loopw [5, 6] (fun v i wr => ∃ k : Nat, k ≤ n ∧ i = .int .i64 k ∧ wr.ownsRow w.heap.size 5 1 v k (u8s (littleN x k)) ∧ Below w.heap.size w wr) (fun _ i _ => n - (intOf i).toNat)
    case atStart => exact ⟨0, by omega, rfl, World.ownsRow_nil _ _ _ _, Below.refl _ _⟩
    case round =>
      obtain ⟨k, hk, rfl, hown, hbel⟩ := hrel
      by_cases hlt : k < n
      · have e8 := byte_bits x k (by omega)
        have E8 := Lib.hid e8
        have hlo := byte_lt x k
        have hsz := hbel.size
        have HBEL := Lib.hid hbel
        clear hbel e8
        go_wp2_with (first
          | (go_at_call 86; refine (rbits_any _ _ _ _ (by omega) HX.out).mono ?_; rintro e w' ⟨rfl, rfl⟩; rw [E8.out])
          | (at_builtin; refine wpList_append_own _ rfl _ _ 32 rfl w.heap.size 5 i0 (.int .u8 0) 1 1 Tryz.underlying32 HI.out.1 HI.out.2.1 HI.out.2.2.1 HI.out.2.2.2 rfl (by decide) _ _ _ rfl (hown.alloc _) ⟨wr.heap.size, 0, none⟩ 1 1 [.int .u8 ((byteN x k : Nat) : Int)] rfl rfl (cell_one_new _ _ _) (fun x hx => by simp at hx; subst hx; rfl) (by unfold maxLen; omega) (by omega) (by simp; omega) ?_; intro v' w3 hown' hgrow3 hnil3))
        go_roundw
        case rel => exact ⟨k + 1, by omega, by go_num, by rw [littleN_snoc]; simpa [u8s] using hown', (HBEL.out.alloc hsz _).grown hgrow3 (by simp; omega) (fun g hg => by have := (hown.lt g hg).1; omega)⟩
        case measure => simp [intOf]; try omega
      · obtain rfl : k = n := by omega
        have HO := Lib.hid hown
        have HB := Lib.hid hbel
        clear hown hbel
        go_wp2
        go_ret
        exact ⟨_, rfl, HO.out, HB.out⟩
end Go.Proofs.YtdpmihlmfephiaaGreatDoor
