/- The program's memory: what is where: contracts. -/
import Derived.Test.YteaididdamihlaaTmB
import Derived.Deep.Cut
import Derived.Deep.QuietTactic
namespace Go.Proofs.Yteaididdamihlaa
set_option linter.unusedVariables false
set_option linter.unusedSimpArgs false
open Go.Joins Go.ChangeShapes Go.WideShapes Go.ChangeAt Go.RowKit Go.Deep

theorem areP_any (f n : Int) (w : World) (hf0 : 0 ≤ f) (hf1 : f < 18446744073709551616) (hn0 : -9223372036854775808 ≤ n) (hn1 : n < 9223372036854775808) :
    Calls Try.prog 57 #[.int .u64 f, .int .i64 n] w fun e w' => e = .returned (.bool (!badP f n)) ∧ w = w' := by
  by_cases h1 : n < 1
  · have hb : badP f n = true := by unfold badP; rw [decide_eq_true h1]; rfl
    rw [hb]
    have h1' : ¬ 1 ≤ n := by omega
    clear hb
    go_enter Try.func57, Try.ntmps57
    go_wp2_with fail
    go_ret
    exact ⟨rfl, rfl⟩
  · have h1' : 1 ≤ n := by omega
    by_cases h2 : 65536 < n
    · have hb : badP f n = true := by unfold badP; rw [decide_eq_true h2]; simp
      rw [hb]
      have h2' : ¬ n ≤ 65536 := by omega
      clear hb
      go_enter Try.func57, Try.ntmps57
      go_wp2_with fail
      go_ret
      exact ⟨rfl, rfl⟩
    · have h2' : n ≤ 65536 := by omega
      by_cases h3 : 65536 ≤ f
      · have hb : badP f n = true := by unfold badP; rw [decide_eq_true h3]; simp
        rw [hb]
        have h3' : ¬ f < 65536 := by omega
        clear hb
        go_enter Try.func57, Try.ntmps57
        go_wp2_with fail
        go_ret
        exact ⟨rfl, rfl⟩
      · have h3' : f < 65536 := by omega
        have hb : (!badP f n) = decide (f + n ≤ 65536) := by
          unfold badP
          rw [decide_eq_false h1, decide_eq_false h2, decide_eq_false h3]
          rw [Bool.eq_iff_iff]
          simp
        rw [hb]
        have w1 : IntKind.u64.wrap n = n := by rw [IntKind.wrap_u64]; omega
        have w2 : IntKind.u64.wrap (f + n) = f + n := by rw [IntKind.wrap_u64]; omega
        clear hb
        go_enter Try.func57, Try.ntmps57
        go_wp2_with fail
        go_ret
        exact ⟨rfl, rfl⟩
/-- how many of n pages are mapped -/
def manyP (m : Mm) (f n : Nat) : Nat := (List.range n).countP fun i => decide (f + i ∈ m.pgs)
theorem manyP_succ (m : Mm) (f n : Nat) : manyP m f (n + 1) = manyP m f n + (if f + n ∈ m.pgs then 1 else 0) := by
  unfold manyP
  rw [List.range_succ, List.countP_append, List.countP_singleton]
  simp
theorem manyP_le (m : Mm) (f n : Nat) : manyP m f n ≤ n := by
  have := List.countP_le_length (p := fun i => decide (f + i ∈ m.pgs)) (l := List.range n)
  simpa [manyP] using this
theorem manyP_any (m : Mm) (f n : Nat) : decide (0 < manyP m f n) = anyIn m f n := by
  unfold manyP anyIn
  rw [Bool.eq_iff_iff, decide_eq_true_eq, List.countP_pos_iff, List.any_eq_true]
theorem manyP_all (m : Mm) (f n : Nat) : decide (manyP m f n < n) = !allIn m f n := by
  have h : (manyP m f n = n) ↔ allIn m f n = true := by
    unfold manyP allIn
    rw [List.all_eq_true]
    have := List.countP_eq_length (p := fun i => decide (f + i ∈ m.pgs)) (l := List.range n)
    rw [List.length_range] at this
    exact this
  have h2 := manyP_le m f n
  cases ha : allIn m f n with
  | true => rw [ha] at h; have := h.2 rfl; simp; omega
  | false => rw [ha] at h; simp at h; simp; omega
set_option maxRecDepth 20000 in
theorem mapped_any (W : World) (M B : Nat) (D : DataW Unit) (pb : Nat → Nat) (F : Nat → Prop) (m : Mm) (h : MemO W M B D pb F m) (f n : Nat) (hf : f + n ≤ 65536) :
    Calls Try.prog 58 #[.pointer (some ⟨M, 0, none⟩), .int .u64 (f : Int), .int .i64 (n : Int)] W fun e W' => e = .returned (.int .i64 (manyP m f n : Int)) ∧ W = W' := by
  have HM := Lib.hid h
  have w0 : IntKind.u64.wrap (n : Int) = (n : Int) := by rw [IntKind.wrap_u64]; omega
  clear h
  go_enter Try.func58, Try.ntmps58
  go_wp2_with fail
  go_loop [7, 11] (fun c i => ∃ k : Nat, k ≤ n ∧ i = .int .u64 k ∧ c = .int .i64 (manyP m f k : Int)) (fun _ i => n - (intOf i).toNat)
  case atStart => exact ⟨0, by omega, rfl, rfl⟩
  case round =>
    obtain ⟨k, hk, rfl, rfl⟩ := hrel
    by_cases hlt : k < n
    · have hm1 := manyP_le m f k
      have w1 : IntKind.u64.wrap ((f : Int) + (k : Int)) = (f : Int) + (k : Int) := by rw [IntKind.wrap_u64]; omega
      have w2 : IntKind.u64.wrap (((f : Int) + (k : Int)) * 256) = (((f + k) * 256 : Nat) : Int) := by rw [IntKind.wrap_u64]; omega
      have e3 : (f + k) * 256 / 256 = f + k := by omega
      have HP := Lib.hid (pageOf_any W M B D pb F m HM.out ((f + k) * 256) (by omega))
      rw [e3] at HP
      have HS := Lib.hid (manyP_succ m f k)
      go_wp2_with fail
      refine HP.out.mono ?_; rintro e W1 ⟨rfl, rfl⟩
      by_cases hin : f + k ∈ m.pgs
      · have hp : pgP pb m (f + k) = some ⟨pb (f + k), 0, none⟩ := if_pos hin
        rw [hp]
        have hs2 : (manyP m f (k + 1) : Int) = (manyP m f k : Int) + 1 := by rw [HS.out, if_pos hin]; omega
        have HS2 := Lib.hid hs2
        clear hp hs2 HS HP
        go_wp2_with fail
        go_round
        case rel => exact ⟨k + 1, by omega, by go_num, by rw [HS2.out]⟩
        case measure => simp [intOf]; omega
      · have hp : pgP pb m (f + k) = none := if_neg hin
        rw [hp]
        have hs2 : (manyP m f (k + 1) : Int) = (manyP m f k : Int) := by rw [HS.out, if_neg hin]; omega
        have HS2 := Lib.hid hs2
        clear hp hs2 HS HP
        go_wp2_with fail
        go_round
        case rel => exact ⟨k + 1, by omega, by go_num, by rw [HS2.out]⟩
        case measure => simp [intOf]; omega
    · obtain rfl : k = n := by omega
      go_wp2_with fail
      go_ret
      exact ⟨rfl, rfl⟩
/-- where n bytes at a lie -/
def placeV (pb : Nat → Nat) (m : Mm) (a n : Nat) : Value := if a % n ≠ 0 then .tuple #[.pointer none, .int .i64 0, .int .i64 31] else if a / 256 ∈ m.pgs then .tuple #[.pointer (some ⟨pb (a / 256), 0, none⟩), .int .i64 ((a % 256 : Nat) : Int), .int .i64 0] else .tuple #[.pointer none, .int .i64 0, .int .i64 30]
/-- where a number of n bytes lies -/
def numV (pb : Nat → Nat) (m : Mm) (a : Nat) (n : Int) : Value := if n = 1 ∨ n = 2 ∨ n = 4 ∨ n = 8 then placeV pb m a n.toNat else .tuple #[.pointer none, .int .i64 0, .int .i64 1]
theorem placeV_tuple (pb : Nat → Nat) (m : Mm) (a n : Nat) : ∃ p i e, placeV pb m a n = .tuple #[.pointer p, .int .i64 i, .int .i64 e] := by
  unfold placeV
  split
  · exact ⟨_, _, _, rfl⟩
  · split
    · exact ⟨_, _, _, rfl⟩
    · exact ⟨_, _, _, rfl⟩
end Go.Proofs.Yteaididdamihlaa
