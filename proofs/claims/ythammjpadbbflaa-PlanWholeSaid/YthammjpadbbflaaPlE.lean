/- Same: contract. -/
import Derived.Test.YthammjpadbbflaaPlB
import Derived.Deep.QuietTactic
namespace Go.Proofs.Ythammjpadbbflaa
set_option linter.unusedVariables false
set_option linter.unusedSimpArgs false
open Go.Joins Go.ChangeShapes Go.WideShapes Go.ChangeAt Go.RowKit Go.Deep

set_option maxHeartbeats 2000000 in
set_option maxRecDepth 100000 in
theorem same_any (a b : Option Addr) (n c d : Nat) (x : List Lnk) (w : World) (ha : RdK w a x) (hb : RdK w b x) (hn : x.length = n) (hm : n ≤ 100000) :
    Calls Try.prog 27 #[.slice a n c, .slice b n d] w fun e w' => e = .returned (.bool true) ∧ Below w.heap.size w w' := by
  have HA := Lib.hid ha
  have HBB := Lib.hid hb
  have HN := Lib.hid hn
  clear ha hb hn
  go_enter Try.func27, Try.ntmps27
  go_wp2_with fail
  go_loopw [5] (fun i wr => ∃ k : Nat, i = .int .i64 k ∧ k ≤ n ∧ Hid (Below w.heap.size w wr)) (fun i _ => n - (intOf i).toNat)
  case atStart => exact ⟨0, rfl, by omega, Lib.hid (Below.refl _ _)⟩
  case round =>
    obtain ⟨k, rfl, hk, HB⟩ := hrel
    by_cases hlt : k < n
    · have hkl : k < x.length := by rw [HN.out]; exact hlt
      obtain ⟨g1, f1, hg1, -, p0, p1, p2, p3⟩ := (HA.out.below HB.out).at_ hkl
      subst hg1
      obtain ⟨g2, f2, hg2, -, q0, q1, q2, q3⟩ := (HBB.out.below HB.out).at_ hkl
      subst hg2
      obtain ⟨y, hy⟩ : ∃ y, x[k] = y := ⟨_, rfl⟩
      rw [hy] at p0 p1 p2 p3 q0 q1 q2 q3
      obtain ⟨yo, yr, yt, ys⟩ := y
      simp only [] at p0 p1 p2 p3 q0 q1 q2 q3
      have kk0 : (0 : Int) ≤ (k : Int) := by omega
      have kk1 : (k : Int) < (n : Int) := by omega
      clear hkl hy
      go_wp2_with fail
      go_quiet (fail)
      go_wp2_with fail
      go_roundw
      case rel => exact ⟨k + 1, by go_num, by omega, Lib.hid (HB.out.trans ⟨rfl, rfl, rfl, Nat.le_refl _, fun _ _ => rfl⟩)⟩
      case measure => simp [intOf]; omega
    · have hkn : k = n := by omega
      subst hkn
      go_wp2_with fail
      go_ret
      exact ⟨rfl, HB.out⟩
end Go.Proofs.Ythammjpadbbflaa
