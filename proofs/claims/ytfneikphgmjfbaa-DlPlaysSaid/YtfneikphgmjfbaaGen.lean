/- Small facts on worlds, lists of numbers, texts; Numbers: contract. -/
import Derived.Test.YtfneikphgmjfbaaMem
import Derived.Test.YtfneikphgmjfbaaWb
import Derived.Test.YtfneikphgmjfbaaRows
import Derived.Laws.BitsAllLaws
import Derived.Laws.NewBlocks
import Derived.WalkKit
import Derived.ProofKit
import Derived.LoopTactic
import Derived.Lib.Hide
import Derived.Lib.SmallJoins
import Derived.Outline
import Derived.Deep.QuietTactic
import Derived.BigQuiet
import Derived.OwnWalk
import Derived.Laws.OwnMore
import Derived.Maps.AppendAt
import Derived.Maps.OwnSet
namespace Go.Proofs.Ytfneikphgmjfbaa
set_option linter.unusedVariables false
set_option linter.unusedSimpArgs false
open Go.Joins Go.ChangeShapes Go.WideShapes Go.ChangeAt Go.RowKit

theorem boxed {w W' : World} {cs : Array Value} {t : TypeId} (h : Below (w.alloc (.cells cs t)).heap.size (w.alloc (.cells cs t)) W') (j : Nat) : W'.cell? ⟨w.heap.size, j, none⟩ = cs[j]? := by
  rw [h.cell (p := ⟨w.heap.size, j, none⟩) (by rw [size_alloc]; exact Nat.lt_succ_self _)]
  exact cell_of_row _ _ j cs t (0, 0) (heap_alloc_new w _)
theorem own_below {w w' : World} {base : Nat} {e : TypeId} {size n : Nat} {v : Value} {xs : List Value} (h : w.ownsRow base e size v n xs) (hb : Below w.heap.size w w') : w'.ownsRow base e size v n xs := by
  obtain ⟨h1, h2⟩ := h
  refine ⟨h1, ?_⟩
  rcases h2 with h2 | ⟨g, cap, cur, hv, hg, hh, r⟩
  · exact Or.inl h2
  · refine Or.inr ⟨g, cap, cur, hv, hg, ?_, r⟩
    have hlt : g < w.heap.size := by
      rcases Nat.lt_or_ge g w.heap.size with h | h
      · exact h
      · rw [Array.getElem?_eq_none h] at hh; cases hh
    rw [hb.block g hlt]; exact hh
def i64s (l : List Int) : List Value := l.map fun x => Value.int .i64 x
theorem i64s_length (l : List Int) : (i64s l).length = l.length := by simp [i64s]
theorem i64s_get (l : List Int) (k : Nat) (h : k < l.length) : (i64s l)[k]? = some (.int .i64 l[k]) := by simp [i64s, h]
/-- two lists of numbers, held against one another -/
theorem numbers_any (a b : Option Addr) (n c m d : Nat) (l r : List Int) (w : World) (hl : Rd w a n (i64s l)) (hr : Rd w b m (i64s r)) (hn : n ≤ 9223372036854775807) (hm : m ≤ 9223372036854775807) :
    Calls Try.prog 17 #[.slice a n c, .slice b m d] w fun e w' => e = .returned (.bool (decide (l = r))) ∧ Quiet w w' := by
  have h1 : l.length = n := by rw [← i64s_length]; exact hl.1
  have h2 : r.length = m := by rw [← i64s_length]; exact hr.1
  by_cases hnm : n = m
  · subst hnm
    have HL := Lib.hid hl
    have HR := Lib.hid hr
    have H1 := Lib.hid h1
    have H2 := Lib.hid h2
    clear hl hr h1 h2
    go_enter Try.func17, Try.ntmps17
    go_wp2
    go_loopw [5] (fun i wr => ∃ k : Nat, k ≤ n ∧ i = .int .i64 k ∧ l.take k = r.take k ∧ Quiet w wr) (fun i _ => n - (intOf i).toNat)
    case atStart => exact ⟨0, by omega, rfl, rfl, Quiet.refl _⟩
    case round =>
      obtain ⟨k, hk, rfl, htk, hq⟩ := hrel
      have HT := Lib.hid htk
      obtain ⟨nq, rfl⟩ := hq
      clear htk
      by_cases hlt : k < n
      · have k1 : k < l.length := by rw [H1.out]; exact hlt
        have k2 : k < r.length := by rw [H2.out]; exact hlt
        obtain ⟨b1, o1, rfl, _, c1⟩ := HL.out.at_ hlt
        obtain ⟨b2, o2, rfl, _, c2⟩ := HR.out.at_ hlt
        rw [i64s_get l k k1] at c1
        rw [i64s_get r k k2] at c2
        go_wp2
        go_quiet (fail)
        go_wp2
        · have hne : (l[k] != r[k]) = true := by assumption
          rw [bne_iff_ne] at hne
          have E : decide (l = r) = false := decide_eq_false fun e => by subst e; exact hne rfl
          go_ret
          exact ⟨ret_bool E.symm, _, World.drewN_drewN _ _ _⟩
        · have hne : (l[k] != r[k]) = false := by assumption
          rw [bne_eq_false_iff_eq] at hne
          go_roundw
          case rel => exact ⟨k + 1, by omega, by go_num, by rw [take_snoc l k k1, take_snoc r k k2, HT.out, hne], _, rfl⟩
          case measure => simp [intOf]; try omega
      · have E : decide (l = r) = true := decide_eq_true (by
          have := HT.out
          rw [List.take_of_length_le (by rw [H1.out]; omega), List.take_of_length_le (by rw [H2.out]; omega)] at this
          exact this)
        have HE := Lib.hid E
        clear E
        go_wp2
        go_ret
        exact ⟨ret_bool HE.out.symm, nq, rfl⟩
  · have E : decide (l = r) = false := decide_eq_false fun e => by subst e; omega
    have ne : ((n : Int) != (m : Int)) = true := by rw [bne_iff_ne]; omega
    have HE := Lib.hid E
    clear E hl hr h1 h2 hnm
    go_enter Try.func17, Try.ntmps17
    go_wp2
    go_ret
    exact ⟨ret_bool HE.out.symm, Quiet.refl _⟩
theorem infoInt : (Try.prog.info? 3).map (fun i => (i.zero, i.size, i.bytes)) = some (some (.int .i64 0), 1, 8) := by kernel_rfl
theorem dec_self {α : Type} [DecidableEq α] (a : α) : decide (a = a) = true := decide_eq_true rfl
theorem quiet_below {w w' : World} (h : Quiet w w') : Below w.heap.size w w' := by obtain ⟨n, rfl⟩ := h; exact below_drewN w n
theorem numbers_self (a b : Option Addr) (n c m d : Nat) (l : List Int) (w : World) (hl : Rd w a n (i64s l)) (hr : Rd w b m (i64s l)) (hn : n ≤ 9223372036854775807) (hm : m ≤ 9223372036854775807) :
    Calls Try.prog 17 #[.slice a n c, .slice b m d] w fun e w' => e = .returned (.bool true) ∧ Below w.heap.size w w' := by
  refine (numbers_any a b n c m d l l w hl hr hn hm).mono fun e w' ⟨he, hq⟩ => ⟨?_, quiet_below hq⟩
  rw [he, dec_self]
/-- texts as values -/
def txs (l : List (List UInt8)) : List Value := l.map fun t => Value.string ⟨t.toArray⟩
theorem txs_length (l : List (List UInt8)) : (txs l).length = l.length := by simp [txs]
theorem txs_get (l : List (List UInt8)) (k : Nat) (h : k < l.length) : (txs l)[k]? = some (.string ⟨l[k].toArray⟩) := by simp [txs, h]
end Go.Proofs.Ytfneikphgmjfbaa
