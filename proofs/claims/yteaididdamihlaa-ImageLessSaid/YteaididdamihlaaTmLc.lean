/- The document's memory: a capability is loaded: contract. -/
import Derived.Test.YteaididdamihlaaTmW
namespace Go.Proofs.Yteaididdamihlaa
set_option linter.unusedVariables false
set_option linter.unusedSimpArgs false
open Go.Joins Go.ChangeShapes Go.WideShapes Go.ChangeAt Go.RowKit Go.Deep

theorem run_midB (w : World) (b o n m l c : Nat) (hm : n ≤ m) (hl : m ≤ c) (hne : n < c) : (Instr.sliceAt 38 (.slice (some ⟨b, o, none⟩) l c) (some (.int .i64 (n : Int))) (some (.int .i64 (m : Int))) none).run Try.prog w = .ok (.slice (some ⟨b, o + n, none⟩) (m - n) (c - n)) w := by
  have hu := Try.underlying38
  have ho : (sizeOf 5).run Try.prog w = .ok 1 w := by kernel_rfl
  have he : Try.prog.elem 38 = 5 := by kernel_rfl
  rw [run_sliceAt_slice w 38 _ _ _ _ (by rw [he]; exact hu), run_slice_lh w 38 _ l c (by rw [he]; exact hu) .i64 .i64 (n : Int) (m : Int) (by omega) (by omega) (by omega), he, ho]
  simp only [Result.andThen, sliced]
  rw [Int.toNat_natCast, Int.toNat_natCast, if_neg (by omega)]
  simp [Addr.add]
theorem many_at {m : Mm} {a n k : Nat} (h : k < n) : (u8s (manyB m a n))[k]? = some (.int .u8 (m.by_ (a + k) : Int)) := by
  rw [u8s_get _ _ (by rw [manyB_len]; exact h), manyB_get]
theorem many_sub (m : Mm) (a n k j : Nat) (h : k + j ≤ n) {W : World} {b o : Nat} (hr : Rd W (some ⟨b, o, none⟩) n (u8s (manyB m a n))) : Rd W (some ⟨b, o + k, none⟩) j (u8s (manyB m (a + k) j)) := by
  refine ⟨by rw [u8s_length, manyB_len], fun h0 => ?_⟩
  obtain ⟨b', o', e, hl, hc⟩ := hr.2 (by omega)
  cases e
  refine ⟨_, _, rfl, hl, fun i hi => ?_⟩
  rw [Nat.add_assoc, hc (k + i) (by omega), many_at (by omega), many_at hi, Nat.add_assoc]
end Go.Proofs.Yteaididdamihlaa
