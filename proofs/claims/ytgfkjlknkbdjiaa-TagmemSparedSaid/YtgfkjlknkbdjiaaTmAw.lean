/- The chapter's examples hold: contract. -/
import Derived.Test.YtgfkjlknkbdjiaaTmSo
namespace Go.Proofs.Ytgfkjlknkbdjiaa
set_option linter.unusedVariables false
set_option linter.unusedSimpArgs false
open Go.Joins Go.ChangeShapes Go.WideShapes Go.ChangeAt Go.RowKit Go.Deep

theorem root_any (n : Int) (w : World) : Calls Try.prog 28 #[.int .u64 n] w fun e w' => e = .returned (.agg (capC ⟨0, n, 0, 255, -1, true⟩).toArray) ∧ Below w.heap.size w w' := by
  have hcc : (capC ⟨0, n, 0, 255, -1, true⟩).toArray = #[.int .u64 0, .int .u64 n, .int .u64 0, .int .i64 255, .int .i64 (-1), .bool true] := rfl
  rw [hcc]
  have hb0 : Below w.heap.size w (w.alloc (.cells #[.int .u64 0, .int .u64 n, .int .u64 0, .int .i64 255, .int .i64 (-1), .bool true] 41)) := bAlloc (Below.refl _ _) _
  have HB0 := Lib.hid hb0
  clear hb0
  go_enter Try.func28, Try.ntmps28
  go_wp2_with fail
  refine bodyPost_ret (v := .agg #[.int .u64 0, .int .u64 n, .int .u64 0, .int .i64 255, .int .i64 (-1), .bool true]) ?_ rfl ⟨rfl, HB0.out⟩
  simp [results, Try.results28, go_sem]
def aw0 : Mm := (mapF (emptyM 2) 1 1).1
def aw1 : Mm := (storeF aw0 256 4 258).1
def aw2 : Mm := (storeC aw1 288 ⟨0, 9, 0, 255, -1, true⟩).1
def aw3 : Mm := (storeF aw2 300 1 0).1
theorem av0 : (mapF (emptyM 2) 1 1).2 = 0 := by decide +kernel
theorem av1 : (storeF aw0 256 4 258).2 = 0 := by decide +kernel
theorem av2 : loadF aw1 256 2 = (258, 0) := by decide +kernel
theorem av3 : (loadF aw1 257 2).2 = 31 := by decide +kernel
theorem av4 : (loadF aw1 0 1).2 = 30 := by decide +kernel
theorem av5 : (storeC aw1 288 ⟨0, 9, 0, 255, -1, true⟩).2 = 0 := by decide +kernel
theorem av6 : aw2.mks = [9] := by decide +kernel
theorem av7 : (storeF aw2 300 1 0).2 = 0 := by decide +kernel
theorem av8 : aw3.mks = [] := by decide +kernel
theorem av9 : (mapF aw3 1 1).2 = 32 := by decide +kernel
theorem av10 : mapF aw3 1 1 = (aw3, 32) := by rfl
theorem av11 : (mapF aw3 2 2).2 = 33 := by decide +kernel
set_option maxRecDepth 100000 in
set_option maxHeartbeats 2000000 in
theorem awake_any (W : World) : Calls Try.prog 10 #[] W fun e W' => e = .returned (.bool true) ∧ Below W.heap.size W W' := by
  have HN := Lib.hid (snew_any 2 (by decide) W)
  have HB := Lib.hid (fun w => sbad_any (-1) (by decide) w)
  go_enter Try.func10, Try.ntmps10
  go_wp2_with fail
  refine HN.out.mono ?_
  rintro e W1 ⟨M, F0, rfl, h0, hb0⟩
  have B0 := Lib.hid hb0
  have O0 := Lib.hid h0
  clear h0 hb0
  go_wp2_with fail
  refine (HB.out _).mono ?_
  rintro e W1' ⟨rfl, rfl⟩
  have C := Lib.hid (smap_any W1 W.heap.size M F0 _ O0.out 1 1 (by decide) (by decide) (by decide) (by decide))
  rw [show (emptyM (2 : Int).toNat) = emptyM 2 from rfl, av0, show (mapF (emptyM 2) 1 1).1 = aw0 from rfl] at C
  go_wp2_with fail
  refine C.out.mono ?_
  rintro e W2 ⟨rfl, F1, h1, m1⟩
  have B1 := Lib.hid (B0.out.trans (m1.belowN O0.out))
  have O1 := Lib.hid h1
  clear h1 m1 C
  have C := Lib.hid (sstore_any W2 W.heap.size M F1 _ O1.out 256 4 258 (by decide) (by decide) (by decide))
  rw [show ((256 : Nat) : Int) = 256 from rfl, av1, show (storeF aw0 256 4 258).1 = aw1 from rfl] at C
  go_wp2_with fail
  refine C.out.mono ?_
  rintro e W3 ⟨rfl, F2, h1, m1⟩
  have B2 := Lib.hid (B1.out.trans (m1.belowN O1.out))
  have O2 := Lib.hid h1
  clear h1 m1 C
  have C := Lib.hid (sload_any W3 W.heap.size M F2 _ O2.out 256 2 (by decide))
  rw [show ((256 : Nat) : Int) = 256 from rfl, av2] at C
  have C2 := Lib.hid (sload_any W3 W.heap.size M F2 _ O2.out 257 2 (by decide))
  rw [show ((257 : Nat) : Int) = 257 from rfl, av3] at C2
  have C3 := Lib.hid (sload_any W3 W.heap.size M F2 _ O2.out 0 1 (by decide))
  rw [show ((0 : Nat) : Int) = 0 from rfl, av4] at C3
  obtain ⟨z2, hz2⟩ : ∃ z, (loadF aw1 257 2).1 = z := ⟨_, rfl⟩
  obtain ⟨z3, hz3⟩ : ∃ z, (loadF aw1 0 1).1 = z := ⟨_, rfl⟩
  rw [hz2] at C2
  rw [hz3] at C3
  clear hz2 hz3
  go_wp2_with fail
  refine C.out.mono ?_
  rintro e W3' ⟨rfl, rfl⟩
  go_wp2_with fail
  refine C2.out.mono ?_
  rintro e W3' ⟨rfl, rfl⟩
  go_wp2_with fail
  refine C3.out.mono ?_
  rintro e W3' ⟨rfl, rfl⟩
  go_wp2_with fail
  refine (root_any 9 W3).mono ?_
  rintro e W4 ⟨rfl, hb⟩
  have O3 := Lib.hid (O2.out.below hb)
  have B3 := Lib.hid (B2.out.trans (hb.mono O2.out.sz))
  clear hb C C2 C3
  have C := Lib.hid (sstoreC_any W4 W.heap.size M F2 _ O3.out 288 ⟨0, 9, 0, 255, -1, true⟩ (by decide) ⟨by decide, by decide, by decide, by decide, by decide, by decide⟩)
  rw [show ((288 : Nat) : Int) = 288 from rfl, av5, show (storeC aw1 288 ⟨0, 9, 0, 255, -1, true⟩).1 = aw2 from rfl] at C
  go_wp2_with fail
  refine C.out.mono ?_
  rintro e W5 ⟨rfl, F3, h1, m1⟩
  have B4 := Lib.hid (B3.out.trans (m1.belowN O3.out))
  have O4 := Lib.hid h1
  clear h1 m1 C
  have C := Lib.hid (stags_any W5 W.heap.size M F3 _ O4.out)
  rw [av6] at C
  go_wp2_with fail
  refine C.out.mono ?_
  rintro e W6 ⟨xa, xc, rfl, ho, hb⟩
  have X6 := Lib.hid (RdX.new O4.out ho)
  have O5 := Lib.hid (O4.out.below hb)
  have B5 := Lib.hid (B4.out.trans (hb.mono O4.out.sz))
  clear ho hb C
  have C := Lib.hid (sstore_any W6 W.heap.size M F3 _ O5.out 300 1 0 (by decide) (by decide) (by decide))
  rw [show ((300 : Nat) : Int) = 300 from rfl, av7, show (storeF aw2 300 1 0).1 = aw3 from rfl] at C
  go_wp2_with fail
  refine C.out.mono ?_
  rintro e W7 ⟨rfl, F4, h1, m1⟩
  have B6 := Lib.hid (B5.out.trans (m1.belowN O5.out))
  have X7 := Lib.hid (X6.out.move m1)
  have O6 := Lib.hid h1
  clear h1 m1 C
  have C := Lib.hid (stags_any W7 W.heap.size M F4 _ O6.out)
  rw [av8] at C
  go_wp2_with fail
  refine C.out.mono ?_
  rintro e W8 ⟨ya, yc, rfl, ho, hb⟩
  have X8 := Lib.hid (X7.out.move (Moves.of_below F4 hb))
  have O7 := Lib.hid (O6.out.below hb)
  have B7 := Lib.hid (B6.out.trans (hb.mono O6.out.sz))
  clear ho hb C
  have C := Lib.hid (smap_any W8 W.heap.size M F4 _ O7.out 1 1 (by decide) (by decide) (by decide) (by decide))
  rw [av9, show (mapF aw3 1 1).1 = aw3 by rw [av10]] at C
  go_wp2_with fail
  refine C.out.mono ?_
  rintro e W9 ⟨rfl, F5, h1, m1⟩
  have B8 := Lib.hid (B7.out.trans (m1.belowN O7.out))
  have X9 := Lib.hid (X8.out.move m1)
  have O8 := Lib.hid h1
  clear h1 m1 C
  have C := Lib.hid (smap_any W9 W.heap.size M F5 _ O8.out 2 2 (by decide) (by decide) (by decide) (by decide))
  rw [av11] at C
  go_wp2_with fail
  refine C.out.mono ?_
  rintro e W10 ⟨rfl, F6, h1, m1⟩
  have B9 := Lib.hid (B8.out.trans (m1.belowN O8.out))
  have X10 := Lib.hid (X9.out.move m1)
  clear h1 m1 C
  have hba : Below W10.heap.size W10 (W10.alloc (.cells #[.int .u64 288] 39)) := bAlloc (Below.refl _ _) _
  have C := Lib.hid (usame_any xa (some ⟨W10.heap.size, 0, none⟩) 1 xc 1 1 [288] [288] _ (X10.out.1.below hba) (Rd.lit W10 #[.int .u64 288] 39 (by show 1 ≤ maxLen; decide)) (by decide) (by decide))
  have B10 := Lib.hid (B9.out.trans (hba.mono (by have := B9.out.size; omega)))
  clear hba
  go_wp2_with fail
  refine C.out.mono ?_
  rintro e W11 ⟨rfl, hb⟩
  have B11 := Lib.hid (B10.out.trans (hb.mono (by have := B10.out.size; omega)))
  clear hb C
  go_wp2_with fail
  go_ret
  exact ⟨by simp, B11.out⟩
end Go.Proofs.Ytgfkjlknkbdjiaa
