/- What a program begins with: the chapter's examples hold. -/
import Derived.Test.YtjefkhieihigiaaGreatAbQ
namespace Go.Proofs.YtjefkhieihigiaaGreat
set_option linter.unusedVariables false
set_option linter.unusedSimpArgs false
open Go.Joins Go.ChangeShapes Go.WideShapes Go.ChangeAt Go.RowKit Go.Deep

theorem boxN_fill (B : Nat) : ∀ (vs pre rest : List Value) (W : World), rest.length = vs.length → BoxN W B (pre ++ rest).toArray → BoxN (W.setCells B pre.length vs) B (pre ++ vs).toArray
  | [], pre, rest, W, hl, h => by
    rw [List.length_eq_zero_iff.1 hl] at h
    exact h
  | v :: r, pre, [], W, hl, h => by cases hl
  | v :: r, pre, x :: s, W, hl, h => by
    have h1 := h.set pre.length v
    have e1 : ((pre ++ x :: s).toArray.setIfInBounds pre.length v) = ((pre ++ [v]) ++ s).toArray := by
      simp
    rw [e1] at h1
    have h2 := boxN_fill B r (pre ++ [v]) s _ (by simpa using hl) h1
    rw [List.length_append, List.length_singleton, List.append_assoc, List.singleton_append] at h2
    exact h2
/-- a new block of 24 cells, stored into -/
theorem box_new (w : World) (V : Array Value) (hV : V.size = 24) : BoxN ((w.alloc (.cells zero24 39)).setCells w.heap.size 0 V.toList) w.heap.size V := by
  have h := boxN_fill w.heap.size V.toList [] zero24.toList _ (show 24 = V.toList.length from by rw [Array.length_toList, hV]) (BoxN.new w zero24 39)
  exact h
def abT : List (List UInt8) := [[97, 98]]
def ab1 : Mm := (buildF (emptyM 4) 4 1 abT [] []).1
def abV : Array Value := #[.int .u64 1184, .int .u64 1280, .int .u64 1280, .int .i64 27, .int .i64 (-1), .bool true, .int .u64 1056, .int .u64 1088, .int .u64 1056, .int .i64 9, .int .i64 (-1), .bool true, .int .u64 1120, .int .u64 1120, .int .u64 1120, .int .i64 9, .int .i64 (-1), .bool true, .int .u64 1152, .int .u64 1152, .int .u64 1152, .int .i64 9, .int .i64 (-1), .bool true]
theorem ev1 : (buildF (emptyM 4) (4 : Nat) 1 abT [] []).2.2 = 0 := by decide +kernel
theorem ev2 : startV (buildF (emptyM 4) (4 : Nat) 1 abT [] []).2.1 = abV := by kernel_rfl
theorem ev3 : bytesF ab1 1024 3 = [97, 98, 0] := by decide +kernel
theorem ev4 : (capC (loadC ab1 1056).1).toArray = #[.int .u64 1024, .int .u64 1027, .int .u64 1024, .int .i64 1, .int .i64 (-1), .bool true] := by kernel_rfl
theorem ev5 : (loadC ab1 1056).2 = 0 := by decide +kernel
theorem ev6 : needW abT [] 0 = 160 := by decide +kernel
theorem rdT_nil (W : World) (F : Nat → Prop) : RdT W F none [] := ⟨Rd.nil W _, fun b off h0 e => by cases e⟩
theorem rdC_nil (W : World) (F : Nat → Prop) : RdC W F none [] := ⟨Rd.nil W _, fun b off h0 e => by cases e⟩
theorem rdT_ab (W : World) (F : Nat → Prop) (h : ¬ F W.heap.size) : RdT (W.alloc (.cells #[.string ⟨#[97, 98]⟩] 9)) F (some ⟨W.heap.size, 0, none⟩) abT :=
  ⟨Rd.lit W #[.string ⟨#[97, 98]⟩] 9 (by show 1 ≤ maxLen; decide), fun b off h0 e => by
    cases e
    exact ⟨h, by rw [size_alloc]; omega⟩⟩
set_option maxRecDepth 100000 in
set_option maxHeartbeats 4000000 in
theorem awake_any (W : World) : Calls Tryz.prog 4 #[] W fun e W' => e = .returned (.bool true) ∧ Below W.heap.size W W' := by
  have HN := Lib.hid (snew_any 4 (by decide) W)
  go_enter Tryz.func4, Tryz.ntmps4
  go_wp2_with fail
  refine HN.out.mono ?_
  rintro e W1 ⟨M, F0, rfl, h0, hb0⟩
  rw [show (emptyM (4 : Int).toNat) = emptyM 4 from rfl] at h0
  have B1 := Lib.hid hb0
  have O1 := Lib.hid h0
  clear h0 hb0 HN
  go_wp2_with fail
  have hba : Below W1.heap.size W1 (W1.alloc (.cells #[.string ⟨#[97, 98]⟩] 9)) := bAlloc (Below.refl _ _) _
  have C := Lib.hid (build_any (W1.alloc (.cells #[.string ⟨#[97, 98]⟩] 9)) W.heap.size M F0 (emptyM 4) 4 1 (some ⟨W1.heap.size, 0, none⟩) none none 1 0 0 abT [] [] (O1.out.below hba) (rdT_ab W1 F0 (fun hf => by have := O1.out.lt _ hf; omega)) (rdT_nil _ _) (rdC_nil _ _) (by decide) (by decide) (by decide) (by decide) (by decide) (by decide) (fun c hc => by cases hc))
  have B2 := Lib.hid (B1.out.trans (hba.mono B1.out.size))
  have O2 := Lib.hid (O1.out.below hba)
  rw [ev1, ev2, show (buildF (emptyM 4) (4 : Nat) 1 abT [] []).1 = ab1 from rfl, show ((4 : Nat) : Int) = 4 from rfl, show abT.length = 1 from rfl, show ([] : List (List UInt8)).length = 0 from rfl, show ([] : List Cp).length = 0 from rfl] at C
  clear hba
  refine C.out.mono ?_
  rintro e W3 ⟨rfl, F1, h3, mv⟩
  have B3 := Lib.hid (B2.out.trans (mv.belowN O2.out))
  have O3 := Lib.hid h3
  clear h3 mv C O1 O2 B1 B2
  obtain ⟨V, hV⟩ : ∃ V, abV = V := ⟨_, rfl⟩
  rw [hV]
  simp only []
  go_at_K
  rename_i hK
  refine hK _ _ ?_
  clear hK
  have hv1 : V.size = 24 := by rw [← hV]; rfl
  have hv2 : V.all (·.oneCell') = true := by rw [← hV]; kernel_rfl
  refine Great.wpList_readTo rfl (some 20) rfl (.tuple #[.agg V, .int .i64 0]) rfl ?_
  refine Great.wpList_readTo rfl (some 24) rfl (.agg V) rfl ?_
  refine Great.wpList_readTo rfl (some 25) rfl (.int .i64 0) rfl ?_
  refine Great.wpList_allocTo rfl (some 3) rfl (.pointer (some ⟨W3.heap.size, 0, none⟩)) (.cells zero24 39) (by kernel_rfl) ?_
  refine wpList_store_mid rfl _ _ _ rfl W3.heap.size 0 V rfl rfl (by rw [hv1]; exact (BoxN.new W3 zero24 39).there) (by rw [hv1]; exact startSize) hv2 ?_
  have hz := box_new W3 V hv1
  have hb4 : Below W3.heap.size W3 ((W3.alloc (.cells zero24 39)).setCells W3.heap.size 0 V.toList) := below_setCells _ (Nat.le_refl _) _ _ _ (bAlloc (Below.refl _ _) _)
  obtain ⟨W4, hW4⟩ : ∃ W4, (W3.alloc (.cells zero24 39)).setCells W3.heap.size 0 V.toList = W4 := ⟨_, rfl⟩
  rw [hW4] at hz hb4
  (try rw [hW4])
  clear hW4 hv1 hv2
  have O4 := Lib.hid (O3.out.below hb4)
  have B4 := Lib.hid (B3.out.trans (hb4.mono B3.out.size))
  have HZ := Lib.hid hz
  clear hz hb4 O3 B3
  have C := Lib.hid (sbytes_any W4 W.heap.size M F1 ab1 O4.out 1024 3 (by decide) (by decide) (by decide))
  rw [show ((1024 : Nat) : Int) = 1024 from rfl, ev3] at C
  go_wp2_with fail
  refine C.out.mono ?_; rintro e W5 ⟨⟨qa, qc, rfl, hor⟩, hb⟩
  have Q5 : Hid (Rd W5 qa 3 (u8s [97, 98, 0])) := Lib.hid (row_later hor (Below.refl _ _))
  have Z5 := Lib.hid (boxN_below HZ.out hb)
  have O5 := Lib.hid (O4.out.below hb)
  have B5 := Lib.hid (B4.out.trans (hb.mono B4.out.size))
  clear hor hb C O4 B4 HZ
  have C := Lib.hid (sloadC_any W5 W.heap.size M F1 ab1 O5.out 1056 (by decide))
  rw [show ((1056 : Nat) : Int) = 1056 from rfl, ev4, ev5] at C
  go_wp2_with fail
  refine C.out.mono ?_; rintro e W6 ⟨rfl, hb⟩
  have Q6 := Lib.hid (Q5.out.below hb)
  have Z6 := Lib.hid (boxN_below Z5.out hb)
  have B6 := Lib.hid (B5.out.trans (hb.mono B5.out.size))
  clear hb C O5 B5 Z5 Q5
  go_wp2_with fail
  obtain ⟨W7, hW7⟩ : ∃ W7, W6.alloc (.cells #[.int .u64 1024, .int .u64 1027, .int .u64 1024, .int .i64 1, .int .i64 (-1), .bool true] 37) = W7 := ⟨_, rfl⟩
  have hs7 : W6.heap.size + 1 = W7.heap.size := by rw [← hW7, size_alloc]
  have hc7 : BoxN W7 W6.heap.size #[.int .u64 1024, .int .u64 1027, .int .u64 1024, .int .i64 1, .int .i64 (-1), .bool true] := by rw [← hW7]; exact BoxN.new _ _ _
  have hb7 : Below W6.heap.size W6 W7 := by rw [← hW7]; exact bAlloc (Below.refl _ _) _
  rw [hW7, hs7]
  have hba : Below W7.heap.size W7 (W7.alloc (.cells #[.string ⟨#[97, 98]⟩] 9)) := bAlloc (Below.refl _ _) _
  have C := Lib.hid (need_mod (some ⟨W7.heap.size, 0, none⟩) none none 1 0 0 0 abT [] (W7.alloc (.cells #[.string ⟨#[97, 98]⟩] 9)) (rdT_ab W7 (fun _ => False) (fun h => h)).1 (Rd.nil _ _) (by decide) (by decide) (by decide))
  rw [ev6, show abT.length = 1 from rfl, show ([] : List (List UInt8)).length = 0 from rfl] at C
  have Q7 := Lib.hid ((Q6.out.below hb7).below hba)
  have Z7 := Lib.hid (boxN_below (boxN_below Z6.out hb7) hba)
  have K7 := Lib.hid (boxN_below hc7 hba)
  have B7 := Lib.hid ((B6.out.trans (hb7.mono B6.out.size)).trans (hba.mono (Nat.le_trans B6.out.size hb7.size)))
  clear hW7 hs7 hc7 hb7 hba Q6 Z6 B6
  refine C.out.mono ?_; rintro e W8 ⟨rfl, hb⟩
  have Q8 := Lib.hid (Q7.out.below hb)
  have Z8 := Lib.hid (boxN_below Z7.out hb)
  have K8 := Lib.hid (boxN_below K7.out hb)
  have B8 := Lib.hid (B7.out.trans (hb.mono B7.out.size))
  clear hb C Q7 Z7 K7 B7
  go_wp2_with fail
  obtain ⟨ob, hob⟩ : ∃ ob : Obj, .cells #[.int .u64 1056, .int .u64 1088, .int .u64 1056, .int .i64 9, .int .i64 (-1), .bool true] 37 = ob := ⟨_, rfl⟩
  rw [hob]
  have hl8 : BoxN (W8.alloc ob) W8.heap.size #[.int .u64 1056, .int .u64 1088, .int .u64 1056, .int .i64 9, .int .i64 (-1), .bool true] := by rw [← hob]; exact BoxN.new _ _ _
  have hba : Below W8.heap.size W8 (W8.alloc ob) := bAlloc (Below.refl _ _) _
  have hbb : Below (W8.alloc ob).heap.size (W8.alloc ob) ((W8.alloc ob).alloc (.cells #[.int .u8 97, .int .u8 98, .int .u8 0] 5)) := bAlloc (Below.refl _ _) _
  have C := Lib.hid (same_any qa (some ⟨W8.heap.size + 1, 0, none⟩) 3 qc 3 3 [97, 98, 0] [97, 98, 0] ((W8.alloc ob).alloc (.cells #[.int .u8 97, .int .u8 98, .int .u8 0] 5)) ((Q8.out.below hba).below hbb) (Rd.lit1 W8 ob #[.int .u8 97, .int .u8 98, .int .u8 0] 5 (by show 3 ≤ maxLen; decide)) (by decide) (by decide))
  have Z8b := Lib.hid (boxN_below (boxN_below Z8.out hba) hbb)
  have K8b := Lib.hid (boxN_below (boxN_below K8.out hba) hbb)
  have L8b := Lib.hid (boxN_below hl8 hbb)
  have B8b := Lib.hid ((B8.out.trans (hba.mono B8.out.size)).trans (hbb.mono (Nat.le_trans B8.out.size hba.size)))
  clear hl8 hba hbb Q8 Z8 K8 B8
  refine C.out.mono ?_; rintro e W9 ⟨rfl, hq⟩
  obtain ⟨Wb, hWb⟩ : ∃ Wb, (W8.alloc ob).alloc (.cells #[.int .u8 97, .int .u8 98, .int .u8 0] 5) = Wb := ⟨_, rfl⟩
  rw [hWb] at hq Z8b K8b L8b B8b
  have hbq : Below Wb.heap.size Wb W9 := by
    obtain ⟨nn, rfl⟩ := hq
    exact below_drewN _ nn
  clear hWb
  have Z9 := Lib.hid (boxN_below Z8b.out hbq)
  have K9 := Lib.hid (boxN_below K8b.out hbq)
  have L9 := Lib.hid (boxN_below L8b.out hbq)
  have B9 := Lib.hid (B8b.out.trans (hbq.mono B8b.out.size))
  clear hq hbq C Z8b K8b L8b B8b hob
  rw [← hV] at Z9
  have z0 : W9.cell? ⟨W3.heap.size, 0, none⟩ = some (.int .u64 1184) := Z9.out.cell 0
  have z1 : W9.cell? ⟨W3.heap.size, 1, none⟩ = some (.int .u64 1280) := Z9.out.cell 1
  have z2 : W9.cell? ⟨W3.heap.size, 2, none⟩ = some (.int .u64 1280) := Z9.out.cell 2
  have z3 : W9.cell? ⟨W3.heap.size, 3, none⟩ = some (.int .i64 27) := Z9.out.cell 3
  have z4 : W9.cell? ⟨W3.heap.size, 4, none⟩ = some (.int .i64 (-1)) := Z9.out.cell 4
  have z5 : W9.cell? ⟨W3.heap.size, 5, none⟩ = some (.bool true) := Z9.out.cell 5
  have z6 : W9.cell? ⟨W3.heap.size, 6, none⟩ = some (.int .u64 1056) := Z9.out.cell 6
  have z7 : W9.cell? ⟨W3.heap.size, 7, none⟩ = some (.int .u64 1088) := Z9.out.cell 7
  have z8 : W9.cell? ⟨W3.heap.size, 8, none⟩ = some (.int .u64 1056) := Z9.out.cell 8
  have z9 : W9.cell? ⟨W3.heap.size, 9, none⟩ = some (.int .i64 9) := Z9.out.cell 9
  have z10 : W9.cell? ⟨W3.heap.size, 10, none⟩ = some (.int .i64 (-1)) := Z9.out.cell 10
  have z11 : W9.cell? ⟨W3.heap.size, 11, none⟩ = some (.bool true) := Z9.out.cell 11
  have z12 : W9.cell? ⟨W3.heap.size, 12, none⟩ = some (.int .u64 1120) := Z9.out.cell 12
  have z13 : W9.cell? ⟨W3.heap.size, 13, none⟩ = some (.int .u64 1120) := Z9.out.cell 13
  have z14 : W9.cell? ⟨W3.heap.size, 14, none⟩ = some (.int .u64 1120) := Z9.out.cell 14
  have z15 : W9.cell? ⟨W3.heap.size, 15, none⟩ = some (.int .i64 9) := Z9.out.cell 15
  have z16 : W9.cell? ⟨W3.heap.size, 16, none⟩ = some (.int .i64 (-1)) := Z9.out.cell 16
  have z17 : W9.cell? ⟨W3.heap.size, 17, none⟩ = some (.bool true) := Z9.out.cell 17
  have z18 : W9.cell? ⟨W3.heap.size, 18, none⟩ = some (.int .u64 1152) := Z9.out.cell 18
  have z19 : W9.cell? ⟨W3.heap.size, 19, none⟩ = some (.int .u64 1152) := Z9.out.cell 19
  have z20 : W9.cell? ⟨W3.heap.size, 20, none⟩ = some (.int .u64 1152) := Z9.out.cell 20
  have z21 : W9.cell? ⟨W3.heap.size, 21, none⟩ = some (.int .i64 9) := Z9.out.cell 21
  have z22 : W9.cell? ⟨W3.heap.size, 22, none⟩ = some (.int .i64 (-1)) := Z9.out.cell 22
  have z23 : W9.cell? ⟨W3.heap.size, 23, none⟩ = some (.bool true) := Z9.out.cell 23
  have k0 : W9.cell? ⟨W6.heap.size, 0, none⟩ = some (.int .u64 1024) := K9.out.cell 0
  have k1 : W9.cell? ⟨W6.heap.size, 1, none⟩ = some (.int .u64 1027) := K9.out.cell 1
  have k2 : W9.cell? ⟨W6.heap.size, 2, none⟩ = some (.int .u64 1024) := K9.out.cell 2
  have k3 : W9.cell? ⟨W6.heap.size, 3, none⟩ = some (.int .i64 1) := K9.out.cell 3
  have k4 : W9.cell? ⟨W6.heap.size, 4, none⟩ = some (.int .i64 (-1)) := K9.out.cell 4
  have k5 : W9.cell? ⟨W6.heap.size, 5, none⟩ = some (.bool true) := K9.out.cell 5
  have l0 : W9.cell? ⟨W8.heap.size, 0, none⟩ = some (.int .u64 1056) := L9.out.cell 0
  have l1 : W9.cell? ⟨W8.heap.size, 1, none⟩ = some (.int .u64 1088) := L9.out.cell 1
  have l2 : W9.cell? ⟨W8.heap.size, 2, none⟩ = some (.int .u64 1056) := L9.out.cell 2
  have l3 : W9.cell? ⟨W8.heap.size, 3, none⟩ = some (.int .i64 9) := L9.out.cell 3
  have l4 : W9.cell? ⟨W8.heap.size, 4, none⟩ = some (.int .i64 (-1)) := L9.out.cell 4
  have l5 : W9.cell? ⟨W8.heap.size, 5, none⟩ = some (.bool true) := L9.out.cell 5
  clear hV Z9 K9 L9
  go_wp2_with fail
  go_ret
  exact ⟨by simp, B9.out⟩
end Go.Proofs.YtjefkhieihigiaaGreat
