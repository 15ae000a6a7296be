/- The law's own: all of a start. -/
import Derived.Test.YtjefkhieihigiaaAbU
namespace Go.Proofs.Ytjefkhieihigiaa
set_option linter.unusedVariables false
set_option linter.unusedSimpArgs false
open Go.Joins Go.ChangeShapes Go.WideShapes Go.ChangeAt Go.RowKit Go.Deep

set_option maxRecDepth 100000 in
set_option maxHeartbeats 4000000 in
theorem start_any (s : St) (w : World) : Calls Try.prog 12 #[.agg (startV s)] w fun e w' => e = .returned (.slice (some ⟨w.heap.size + 1, 0, none⟩) 4 4) ∧ w' = (w.alloc (.cells (startV s) 34)).alloc (.cells (startV s) 32) := by
  go_enter Try.func12, Try.ntmps12
  go_upto_region 0 with fail
  apply wp_region_lit
  refine Great.wpList_allocTo rfl (some 1) rfl (.pointer (some ⟨w.heap.size, 0, none⟩)) (.cells (startV s) 34) (by kernel_rfl) ?_
  have hz : BoxN (w.alloc (.cells (startV s) 34)) w.heap.size (startV s) := BoxN.new _ _ _
  obtain ⟨w1, hw1⟩ : ∃ w1, w.alloc (.cells (startV s) 34) = w1 := ⟨_, rfl⟩
  rw [hw1] at hz
  (try rw [hw1])
  have hs1 : w1.heap.size = w.heap.size + 1 := by rw [← hw1, size_alloc]
  obtain ⟨ty, hb⟩ := hz
  have r0 : w1.rangeAt w.heap.size 0 (capC s.st) := World.rangeAt_of_block hb 0 6
  have r1 : w1.rangeAt w.heap.size 6 (capC s.ar) := World.rangeAt_of_block hb 6 6
  have r2 : w1.rangeAt w.heap.size 12 (capC s.en) := World.rangeAt_of_block hb 12 6
  have r3 : w1.rangeAt w.heap.size 18 (capC s.au) := World.rangeAt_of_block hb 18 6
  have R := Lib.hid (And.intro r0 (And.intro r1 (And.intro r2 r3)))
  have S := Lib.hid (And.intro hs1 hw1)
  clear r0 r1 r2 r3 hb hs1 hw1
  go_upto_region 1 with fail
  apply wp_region_lit
  refine Great.wpList_readTo rfl (some 3) rfl (.pointer (some ⟨w.heap.size, 0, none⟩)) (by kernel_rfl) ?_
  refine wpList_load_mid rfl _ _ rfl w.heap.size 0 rfl (capC s.st) _ R.out.1 Try.underlying32 rfl capSize ?_
  refine Great.wpList_readTo rfl (some 5) rfl (.pointer (some ⟨w.heap.size, 6, none⟩)) (by kernel_rfl) ?_
  refine wpList_load_mid rfl _ _ rfl w.heap.size 6 rfl (capC s.ar) _ R.out.2.1 Try.underlying32 rfl capSize ?_
  refine Great.wpList_readTo rfl (some 7) rfl (.pointer (some ⟨w.heap.size, 12, none⟩)) (by kernel_rfl) ?_
  refine wpList_load_mid rfl _ _ rfl w.heap.size 12 rfl (capC s.en) _ R.out.2.2.1 Try.underlying32 rfl capSize ?_
  refine Great.wpList_readTo rfl (some 9) rfl (.pointer (some ⟨w.heap.size, 18, none⟩)) (by kernel_rfl) ?_
  refine wpList_load_mid rfl _ _ rfl w.heap.size 18 rfl (capC s.au) _ R.out.2.2.2 Try.underlying32 rfl capSize ?_
  refine Great.wpList_allocTo rfl (some 11) rfl (.slice (some ⟨w1.heap.size, 0, none⟩) 4 4) (.cells (startV s) 32) (by kernel_rfl) ?_
  go_wp2_with fail
  go_ret
  exact ⟨(show Ending.returned (Value.slice (some ⟨w1.heap.size, 0, none⟩) 4 4) = _ from by rw [S.out.1]), by rw [S.out.2]⟩
end Go.Proofs.Ytjefkhieihigiaa
