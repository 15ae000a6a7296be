/- New machines: contracts. -/
import Derived.Test.YtinflemamegdfaaMcA
namespace Go.Proofs.Ytinflemamegdfaa
set_option linter.unusedVariables false
set_option linter.unusedSimpArgs false
open Go.Joins Go.ChangeShapes Go.WideShapes Go.ChangeAt Go.RowKit Go.Deep

theorem undrewB {W W' : World} (h : Below W.drew.heap.size W.drew W') : Below W.heap.size W W' := ⟨h.os, h.tape, h.output, h.size, h.block⟩
theorem mcBuilt (pc : Cp) (M : Nat) : Try.prog.built 42 [(0, .agg (capC pc).toArray), (2, .pointer (some ⟨M, 0, none⟩))] = some (mcL pc (List.replicate 32 ⟨0, 0, 0, 0, 0, false⟩) M).toArray := by
  obtain ⟨b, t, a, p, y, g⟩ := pc
  kernel_rfl
theorem rmcBuilt (pc : Cp) (M : Nat) : Try.prog.built 46 [(0, .agg (capC pc).toArray), (2, .pointer (some ⟨M, 0, none⟩))] = some (mcL pc (List.replicate 32 ⟨0, 0, 0, 0, 0, false⟩) M).toArray := by
  obtain ⟨b, t, a, p, y, g⟩ := pc
  kernel_rfl
theorem capSize6 : (Try.prog.info? 24).map (·.size) = some 6 := by kernel_rfl
theorem rep_len (c : Cp) : (List.replicate 32 c).length = 32 := by simp
theorem set_all {rs : List Cp} {k : Nat} {c : Cp} (h : ∀ j (hj : j < rs.length), j < k → rs[j] = c) : ∀ j (hj : j < (rs.set k c).length), j < k + 1 → (rs.set k c)[j] = c := fun j hj hk => by
  rw [List.getElem_set]
  split
  · rfl
  · exact h j (by simpa using hj) (by omega)
theorem all_rep {rs : List Cp} {c : Cp} (hl : rs.length = 32) (h : ∀ j (hj : j < rs.length), j < 32 → rs[j] = c) : rs = List.replicate 32 c :=
  List.ext_getElem (by rw [hl]; simp) fun j h1 h2 => by rw [h j h1 (by omega), List.getElem_replicate]
set_option maxRecDepth 100000 in
set_option maxHeartbeats 4000000 in
theorem mnew_any (M : Nat) (pc : Cp) (W : World) :
    Calls Try.prog 31 #[.pointer (some ⟨M, 0, none⟩), .agg (capC pc).toArray] W fun e W' => ∃ A, e = .returned (.pointer (some ⟨A, 0, none⟩)) ∧ W.heap.size ≤ A ∧ McAt W' A M pc (List.replicate 32 nullC) ∧ Below W.heap.size W W' := by
  have hbuilt := mcBuilt pc M
  obtain ⟨L, hL⟩ : ∃ L, (mcL pc (List.replicate 32 ⟨0, 0, 0, 0, 0, false⟩) M).toArray = L := ⟨_, rfl⟩
  rw [hL] at hbuilt
  have HLL := Lib.hid hL
  have HBT := Lib.hid hbuilt
  obtain ⟨pcA, hpc⟩ : ∃ x, (capC pc).toArray = x := ⟨_, rfl⟩
  rw [hpc] at hbuilt ⊢
  have HPC := Lib.hid hpc
  clear hL hpc
  go_enter Try.func31, Try.ntmps31
  go_upto_region 0 with fail
  apply wp_region_lit
  refine Great.wpList_boxTo rfl 24 _ rfl (some 3) rfl W.heap.size rfl pcA rfl ?_
  obtain ⟨W1, hW1⟩ : ∃ W1, W.alloc (.cells pcA 24) = W1 := ⟨_, rfl⟩
  have hbx : BoxN W1 W.heap.size pcA := by rw [← hW1]; exact BoxN.new _ _ _
  have hb1 : Below W.heap.size W W1 := by rw [← hW1]; exact bAlloc (Below.refl _ _) _
  rw [hW1]
  obtain ⟨B, hB⟩ : ∃ B, W.heap.size = B := ⟨_, rfl⟩
  rw [hB] at hbx hb1 ⊢
  have hr : W1.rangeAt B 0 (capC pc) := range_mid (pre := []) (mid := capC pc) (post := []) (by rw [List.append_nil, List.nil_append, HPC.out]; exact hbx)
  clear hW1
  go_upto_region 1 with fail
  apply wp_region_lit
  refine wpList_load_mid rfl _ _ rfl B 0 rfl (capC pc) _ hr Try.underlying24 rfl capSize6 ?_
  refine Great.wpList_readTo rfl (some 8) rfl (.pointer (some ⟨M, 0, none⟩)) (by kernel_rfl) ?_
  refine wpList_buildTo rfl 42 _ rfl (some 9) rfl L ((show _ = Try.prog.built 42 [(0, .agg (capC pc).toArray), (2, .pointer (some ⟨M, 0, none⟩))] from by kernel_rfl).trans HBT.out) ?_
  refine Great.wpList_boxTo rfl 42 _ rfl (some 10) rfl W1.heap.size rfl L rfl ?_
  obtain ⟨W2, hW2⟩ : ∃ W2, W1.alloc (.cells L 42) = W2 := ⟨_, rfl⟩
  have hbx2 : BoxN W2 W1.heap.size L := by rw [← hW2]; exact BoxN.new _ _ _
  have hb2 : Below W1.heap.size W1 W2 := by rw [← hW2]; exact bAlloc (Below.refl _ _) _
  rw [hW2]
  obtain ⟨A, hA⟩ : ∃ A, W1.heap.size = A := ⟨_, rfl⟩
  have hBA : B ≤ A := by have := hb1.size; omega
  have H2 : Hid (McAt W2 A M pc (List.replicate 32 ⟨0, 0, 0, 0, 0, false⟩)) := Lib.hid ⟨by rw [HLL.out, ← hA]; exact hbx2, rep_len _⟩
  have B2 : Hid (Below B W W2) := Lib.hid (hb1.trans (hb2.mono (by omega)))
  rw [hA]
  have HBA := Lib.hid hBA
  have HB := Lib.hid hB
  clear hW2 hbx2 hb2 hb1 hr hbx hA hBA hB
  go_wp2_with fail
  go_loopw [6, 11] (fun i x wr => ∃ (k : Nat) (rs : List Cp), x = .int .i64 (k : Int) ∧ k ≤ 32 ∧ Hid (∀ j (h : j < rs.length), j < k → rs[j] = nullC) ∧ Hid (McAt wr A M pc rs) ∧ Hid (Below B W wr)) (fun _ x _ => 32 - (intOf x).toNat)
  case atStart => exact ⟨0, _, rfl, by omega, Lib.hid (fun j h h0 => absurd h0 (by omega)), H2, B2⟩
  case round =>
    obtain ⟨k, rs, rfl, hk, HQ, HM, HBL⟩ := hrel
    by_cases hlt : k < 32
    · have hd1 : decide ((k : Int) < 32) = true := decide_eq_true (by omega)
      have kk0 : (0 : Int) ≤ (k : Int) := by omega
      have kk1 : (k : Int) < 32 := by omega
      have HL := Lib.hid hlt
      clear hlt hk H2 B2
      go_upto_region 5 with fail
      go_region_law (first
        | (go_simp; go_at_call 54; refine (null_any _).mono ?_; rintro e w1 ⟨rfl, hb⟩; have hb := undrewB hb; have H1 := Lib.hid (HM.out.below hb); have B1 := Lib.hid (HBL.out.trans (hb.mono (by rw [← HB.out]; exact HBL.out.size))); obtain ⟨c0, c1, c2, c3, c4, c5⟩ := range6 (H1.out.reg k (by have := H1.out.len; have := HL.out; omega)); obtain ⟨f0, f1, f2, f3, f4, f5⟩ := there6 (H1.out.regThere k (by have := H1.out.len; have := HL.out; omega)); clear hb; dsimp only))
      all_goals
        have hk2 : k < rs.length := by have := H1.out.len; have := HL.out; omega
        have h3 := H1.out.setReg k hk2 nullC
        have b3 := below_setCells A HBA.out (capC nullC) (6 + k * 6) _ B1.out
        have h4 := set_all (c := nullC) HQ.out
        rw [show capC nullC = [.int .u64 0, .int .u64 0, .int .u64 0, .int .i64 0, .int .i64 (-1), .bool false] from rfl, set6_eq] at h3 b3
        generalize (((((w1.setCell ⟨A, 6 + k * 6, none⟩ (.int .u64 0)).setCell ⟨A, 6 + k * 6 + 1, none⟩ (.int .u64 0)).setCell ⟨A, 6 + k * 6 + 2, none⟩ (.int .u64 0)).setCell ⟨A, 6 + k * 6 + 3, none⟩ (.int .i64 0)).setCell ⟨A, 6 + k * 6 + 4, none⟩ (.int .i64 (-1))).setCell ⟨A, 6 + k * 6 + 5, none⟩ (.bool false) = W3 at *
        have H3 := Lib.hid h3
        have B3 := Lib.hid b3
        have H4 := Lib.hid h4
        clear h3 b3 h4 hk2 c0 c1 c2 c3 c4 c5 f0 f1 f2 f3 f4 f5 H1 B1
        go_wp2_with fail
        have hl := HL.out
        go_roundw
        case rel => exact ⟨k + 1, _, by go_num, by omega, H4, H3, B3⟩
        case measure => simp [intOf]; omega
    · obtain rfl : k = 32 := by omega
      have hrs := all_rep HM.out.len HQ.out
      subst hrs
      clear hlt hk H2 B2
      go_wp2_with fail
      go_ret
      exact ⟨A, rfl, by rw [HB.out]; exact HBA.out, HM.out, by rw [HB.out]; exact HBL.out⟩
set_option maxRecDepth 100000 in
set_option maxHeartbeats 4000000 in
theorem rmnew_any (M : Nat) (pc : Cp) (W : World) :
    Calls Try.prog 32 #[.pointer (some ⟨M, 0, none⟩), .agg (capC pc).toArray] W fun e W' => ∃ A, e = .returned (.pointer (some ⟨A, 0, none⟩)) ∧ W.heap.size ≤ A ∧ McAt W' A M pc (List.replicate 32 nullC) ∧ Below W.heap.size W W' := by
  have hbuilt := rmcBuilt pc M
  obtain ⟨L, hL⟩ : ∃ L, (mcL pc (List.replicate 32 ⟨0, 0, 0, 0, 0, false⟩) M).toArray = L := ⟨_, rfl⟩
  rw [hL] at hbuilt
  have HLL := Lib.hid hL
  have HBT := Lib.hid hbuilt
  obtain ⟨pcA, hpc⟩ : ∃ x, (capC pc).toArray = x := ⟨_, rfl⟩
  rw [hpc] at hbuilt ⊢
  have HPC := Lib.hid hpc
  clear hL hpc
  go_enter Try.func32, Try.ntmps32
  go_upto_region 0 with fail
  apply wp_region_lit
  refine Great.wpList_boxTo rfl 24 _ rfl (some 3) rfl W.heap.size rfl pcA rfl ?_
  obtain ⟨W1, hW1⟩ : ∃ W1, W.alloc (.cells pcA 24) = W1 := ⟨_, rfl⟩
  have hbx : BoxN W1 W.heap.size pcA := by rw [← hW1]; exact BoxN.new _ _ _
  have hb1 : Below W.heap.size W W1 := by rw [← hW1]; exact bAlloc (Below.refl _ _) _
  rw [hW1]
  obtain ⟨B, hB⟩ : ∃ B, W.heap.size = B := ⟨_, rfl⟩
  rw [hB] at hbx hb1 ⊢
  have hr : W1.rangeAt B 0 (capC pc) := range_mid (pre := []) (mid := capC pc) (post := []) (by rw [List.append_nil, List.nil_append, HPC.out]; exact hbx)
  clear hW1
  go_upto_region 1 with fail
  apply wp_region_lit
  refine wpList_load_mid rfl _ _ rfl B 0 rfl (capC pc) _ hr Try.underlying24 rfl capSize6 ?_
  refine Great.wpList_readTo rfl (some 8) rfl (.pointer (some ⟨M, 0, none⟩)) (by kernel_rfl) ?_
  refine wpList_buildTo rfl 46 _ rfl (some 9) rfl L ((show _ = Try.prog.built 46 [(0, .agg (capC pc).toArray), (2, .pointer (some ⟨M, 0, none⟩))] from by kernel_rfl).trans HBT.out) ?_
  refine Great.wpList_boxTo rfl 46 _ rfl (some 10) rfl W1.heap.size rfl L rfl ?_
  obtain ⟨W2, hW2⟩ : ∃ W2, W1.alloc (.cells L 46) = W2 := ⟨_, rfl⟩
  have hbx2 : BoxN W2 W1.heap.size L := by rw [← hW2]; exact BoxN.new _ _ _
  have hb2 : Below W1.heap.size W1 W2 := by rw [← hW2]; exact bAlloc (Below.refl _ _) _
  rw [hW2]
  obtain ⟨A, hA⟩ : ∃ A, W1.heap.size = A := ⟨_, rfl⟩
  have hBA : B ≤ A := by have := hb1.size; omega
  have H2 : Hid (McAt W2 A M pc (List.replicate 32 ⟨0, 0, 0, 0, 0, false⟩)) := Lib.hid ⟨by rw [HLL.out, ← hA]; exact hbx2, rep_len _⟩
  have B2 : Hid (Below B W W2) := Lib.hid (hb1.trans (hb2.mono (by omega)))
  rw [hA]
  have HBA := Lib.hid hBA
  have HB := Lib.hid hB
  clear hW2 hbx2 hb2 hb1 hr hbx hA hBA hB
  go_wp2_with fail
  go_loopw [6] (fun x wr => ∃ (k : Nat) (rs : List Cp), x = .int .i64 (k : Int) ∧ k ≤ 32 ∧ Hid (∀ j (h : j < rs.length), j < k → rs[j] = nullC) ∧ Hid (McAt wr A M pc rs) ∧ Hid (Below B W wr)) (fun x _ => 32 - (intOf x).toNat)
  case atStart => exact ⟨0, _, rfl, by omega, Lib.hid (fun j h h0 => absurd h0 (by omega)), H2, B2⟩
  case round =>
    obtain ⟨k, rs, rfl, hk, HQ, HM, HBL⟩ := hrel
    by_cases hlt : k < 32
    · have hd1 : decide ((k : Int) < 32) = true := decide_eq_true (by omega)
      have kk0 : (0 : Int) ≤ (k : Int) := by omega
      have kk1 : (k : Int) < 32 := by omega
      have HL := Lib.hid hlt
      clear hlt hk H2 B2
      go_upto_region 5 with fail
      go_region_law (first
        | (go_simp; go_at_call 55; refine (rint_any _ _).mono ?_; rintro e w1 ⟨rfl, hb⟩; have hb := undrewB hb; have H1 := Lib.hid (HM.out.below hb); have B1 := Lib.hid (HBL.out.trans (hb.mono (by rw [← HB.out]; exact HBL.out.size))); obtain ⟨c0, c1, c2, c3, c4, c5⟩ := range6 (H1.out.reg k (by have := H1.out.len; have := HL.out; omega)); obtain ⟨f0, f1, f2, f3, f4, f5⟩ := there6 (H1.out.regThere k (by have := H1.out.len; have := HL.out; omega)); clear hb; dsimp only))
      all_goals
        have hk2 : k < rs.length := by have := H1.out.len; have := HL.out; omega
        have h3 := H1.out.setReg k hk2 nullC
        have b3 := below_setCells A HBA.out (capC nullC) (6 + k * 6) _ B1.out
        have h4 := set_all (c := nullC) HQ.out
        rw [show capC nullC = [.int .u64 0, .int .u64 0, .int .u64 0, .int .i64 0, .int .i64 (-1), .bool false] from rfl, set6_eq] at h3 b3
        generalize (((((w1.setCell ⟨A, 6 + k * 6, none⟩ (.int .u64 0)).setCell ⟨A, 6 + k * 6 + 1, none⟩ (.int .u64 0)).setCell ⟨A, 6 + k * 6 + 2, none⟩ (.int .u64 0)).setCell ⟨A, 6 + k * 6 + 3, none⟩ (.int .i64 0)).setCell ⟨A, 6 + k * 6 + 4, none⟩ (.int .i64 (-1))).setCell ⟨A, 6 + k * 6 + 5, none⟩ (.bool false) = W3 at *
        have H3 := Lib.hid h3
        have B3 := Lib.hid b3
        have H4 := Lib.hid h4
        clear h3 b3 h4 hk2 c0 c1 c2 c3 c4 c5 f0 f1 f2 f3 f4 f5 H1 B1
        go_wp2_with fail
        have hl := HL.out
        go_roundw
        case rel => exact ⟨k + 1, _, by go_num, by omega, H4, H3, B3⟩
        case measure => simp [intOf]; omega
    · obtain rfl : k = 32 := by omega
      have hrs := all_rep HM.out.len HQ.out
      subst hrs
      clear hlt hk H2 B2
      go_wp2_with fail
      go_ret
      exact ⟨A, rfl, by rw [HB.out]; exact HBA.out, HM.out, by rw [HB.out]; exact HBL.out⟩
end Go.Proofs.Ytinflemamegdfaa
