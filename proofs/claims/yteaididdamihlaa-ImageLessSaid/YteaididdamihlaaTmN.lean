/- The program's memory: a capability is loaded: contract. -/
import Derived.Test.YteaididdamihlaaTmL
namespace Go.Proofs.Yteaididdamihlaa
set_option linter.unusedVariables false
set_option linter.unusedSimpArgs false
open Go.Joins Go.ChangeShapes Go.WideShapes Go.ChangeAt Go.RowKit Go.Deep

theorem spot_place (pb : Nat → Nat) (m : Mm) (a : Nat) : (spotE m a = 0 ∧ a % 32 = 0 ∧ a / 256 ∈ m.pgs ∧ placeV pb m a 32 = .tuple #[.pointer (some ⟨pb (a / 256), 0, none⟩), .int .i64 ((a % 256 : Nat) : Int), .int .i64 0]) ∨
    (spotE m a ≠ 0 ∧ placeV pb m a 32 = .tuple #[.pointer none, .int .i64 0, .int .i64 (spotE m a)]) := by
  have hd : ((a : Int) / 256).toNat = a / 256 := by omega
  unfold spotE placeV isIn
  rw [hd]
  by_cases hal : a % 32 = 0
  · rw [if_neg (show ¬ ((a : Int) % 32 ≠ 0) by omega), if_neg (show ¬ (a % 32 ≠ 0) by omega)]
    by_cases hin : a / 256 ∈ m.pgs
    · left
      rw [if_pos hin, if_pos (decide_eq_true hin)]
      exact ⟨rfl, hal, hin, rfl⟩
    · right
      rw [if_neg hin, if_neg (by rw [decide_eq_false hin]; decide)]
      exact ⟨by decide, rfl⟩
  · right
    rw [if_pos (show (a : Int) % 32 ≠ 0 by omega), if_pos hal]
    exact ⟨by decide, rfl⟩
theorem below_set {w w' : World} (h : Below w.heap.size w w') {B j : Nat} (hB : w.heap.size ≤ B) (u : Value) : Below w.heap.size w (w'.setCell ⟨B, j, none⟩ u) := Below.setCell h (p := ⟨B, j, none⟩) hB u
theorem ofB_many (m : Mm) (a n : Nat) (h : 8 ≤ n) : ofB (manyB m a n) = ofB (manyB m a 8) := by
  unfold ofB
  obtain ⟨k, rfl⟩ : ∃ k, n = 8 + k := ⟨n - 8, by omega⟩
  rw [manyB_add, List.take_append_of_le_length (by rw [manyB_len]; exact Nat.le_refl _)]
theorem run_cut8 (w : World) (b i n m c : Nat) (hn : n ≤ m) (hc : m ≤ c) (hne : n < c) : (Instr.sliceAt 38 (.slice (some ⟨b, i, none⟩) m c) (some (.int .i64 (n : Int))) none none).run Try.prog w = .ok (.slice (some ⟨b, i + n, none⟩) (m - n) (c - n)) w := by
  rw [run_cutB w _ n m c hn hc]
  unfold cutA
  rw [if_neg (by omega)]
  simp [Addr.add]
end Go.Proofs.Yteaididdamihlaa
