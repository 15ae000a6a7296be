/- Each segment's capability, an object's own, permissions: contract of ImageParts. -/
import Derived.Test.YteaididdamihlaaImX
namespace Go.Proofs.Yteaididdamihlaa.Ce
set_option linter.unusedVariables false
set_option linter.unusedSimpArgs false
open Go.Joins Go.ChangeShapes Go.WideShapes Go.ChangeAt Go.RowKit Go.Deep

theorem wf_u64' {x : Int} (h : (Lit.int .u64 x).wf = true) : 0 ≤ x ∧ x < 18446744073709551616 := wf_u64b h
theorem drewc {W : World} {p : Addr} {v : Value} (h : W.cell? p = some v) : W.drew.cell? p = some v := h
theorem right_facts {o : Ob} {b : Nat} (h : (decide (checkF o = 0) && (decide (b % 256 = 0) && decide (b < 16777216))) = true) : segsB 0 o.segs = true ∧ b < 16777216 := by
  simp only [Bool.and_eq_true, decide_eq_true_eq] at h
  obtain ⟨-, -, h3, -⟩ := (check0 o).1 h.1
  exact ⟨h3, h.2.2⟩
set_option maxHeartbeats 8000000 in
set_option maxRecDepth 100000 in
theorem parts_walk (w : World) (B : Nat) (hB0 : w.heap.size = B) (v0 : ByteArray) (na ga sa ra ia fa : Option Addr) (n1 nc m gc ms sc n4 rc n5 ic n6 fc : Nat) (o : Ob) (hoe : objV o = .agg #[.string v0, .slice na n1 nc, .slice ga m gc, .slice sa ms sc, .slice ra n4 rc, .slice ia n5 ic, .slice fa n6 fc]) (hm : o.segs.length = m) (hga : o.ga = ga) (hr : RdOb w o) (hf : FitOb o) (b : Nat) (i flags : Int) :
    Calls Try.prog 3 #[.agg #[.string v0, .slice na n1 nc, .slice ga m gc, .slice sa ms sc, .slice ra n4 rc, .slice ia n5 ic, .slice fa n6 fc], .int .u64 (b : Int), .int .i64 i, .int .i64 flags] w fun e w' => e = .returned (.bool true) ∧ Below B w w' := by
  have HR := Lib.hid hr
  have HF := Lib.hid hf
  have HOE := Lib.hid hoe
  have HM := Lib.hid hm
  have HGA := Lib.hid hga
  clear hr hf hoe hm hga
  have B0 : Hid (Below B w (w.alloc (.cells #[.string v0, .slice na n1 nc, .slice ga m gc, .slice sa ms sc, .slice ra n4 rc, .slice ia n5 ic, .slice fa n6 fc] 28))) := Lib.hid (by rw [← hB0]; exact bAlloc (Below.refl _ _) _)
  have O0 : Hid (BoxN (w.alloc (.cells #[.string v0, .slice na n1 nc, .slice ga m gc, .slice sa ms sc, .slice ra n4 rc, .slice ia n5 ic, .slice fa n6 fc] 28)) B #[.string v0, .slice na n1 nc, .slice ga m gc, .slice sa ms sc, .slice ra n4 rc, .slice ia n5 ic, .slice fa n6 fc]) := Lib.hid (by rw [← hB0]; exact BoxN.new w _ _)
  go_enter Try.func3, Try.ntmps3
  go_upto_region 1 with fail
  obtain ⟨W0, hW0⟩ : ∃ W, w.alloc (.cells #[.string v0, .slice na n1 nc, .slice ga m gc, .slice sa ms sc, .slice ra n4 rc, .slice ia n5 ic, .slice fa n6 fc] 28) = W := ⟨_, rfl⟩
  rw [hW0] at B0 O0 ⊢
  have HBW : Hid (w.heap.size ≤ B) := Lib.hid (Nat.le_of_eq hB0)
  (try rw [hB0])
  clear hW0 hB0
  go_wp2_with fail
  refine (awake_any _).mono ?_; rintro e W1 ⟨rfl, hb⟩
  have O1 := Lib.hid (boxN_below O0.out hb)
  have B1 := Lib.hid (B0.out.trans (hb.mono (Nat.le_of_lt O0.out.lt)))
  clear hb B0 O0
  obtain ⟨q1, hq1⟩ : ∃ q, (decide (checkF o = 0) && (decide (b % 256 = 0) && decide (b < 16777216))) = q := ⟨_, rfl⟩
  have HQ := Lib.hid hq1
  have C := Lib.hid (right_ok o b W1 (HR.out.below (B1.out.mono HBW.out)) HF.out)
  rw [hq1, HOE.out] at C
  clear hq1
  have o0 : W1.cell? ⟨B, 0, none⟩ = some (.string v0) := O1.out.cell 0
  have o1 : W1.cell? ⟨B, 1, none⟩ = some (.slice na n1 nc) := O1.out.cell 1
  have o2 : W1.cell? ⟨B, 2, none⟩ = some (.slice ga m gc) := O1.out.cell 2
  have o3 : W1.cell? ⟨B, 3, none⟩ = some (.slice sa ms sc) := O1.out.cell 3
  have o4 : W1.cell? ⟨B, 4, none⟩ = some (.slice ra n4 rc) := O1.out.cell 4
  have o5 : W1.cell? ⟨B, 5, none⟩ = some (.slice ia n5 ic) := O1.out.cell 5
  have o6 : W1.cell? ⟨B, 6, none⟩ = some (.slice fa n6 fc) := O1.out.cell 6
  go_wp2_with fail
  refine C.out.mono ?_; rintro e W2 ⟨rfl, hb⟩
  have O2 := Lib.hid (boxN_below O1.out hb)
  have B2 := Lib.hid (B1.out.trans (hb.mono (Nat.le_of_lt O1.out.lt)))
  clear hb C O1 B1 o0 o1 o2 o3 o4 o5 o6
  by_cases f0 : 0 ≤ flags
  · by_cases f1 : flags ≤ 7
    · have d0 : decide ((0 : Int) ≤ flags) = true := decide_eq_true f0
      have d1 : decide (flags ≤ 7) = true := decide_eq_true f1
      have CP := Lib.hid (fun w2 => perms_any flags f0 f1 w2)
      have CR := Lib.hid (fun w2 => rperms_any flags f0 f1 w2)
      obtain ⟨pf, hpf⟩ : ∃ p, permF flags = p := ⟨_, rfl⟩
      rw [hpf] at CP CR
      clear f0 f1 hpf
      go_wp2_with fail
      refine (CP.out _).mono ?_; rintro e W2' ⟨rfl, rfl⟩
      go_wp2_with fail
      refine (CR.out _).mono ?_; rintro e W2' ⟨rfl, rfl⟩
      clear CP CR d0 d1
      cases q1 with
      | false =>
        go_wp2_with fail
        go_ret
        exact ⟨by simp, B2.out⟩
      | true =>
        obtain ⟨hsb, hbb⟩ := right_facts HQ.out
        have HOKS := Lib.hid (segs_ok hsb)
        have HBB := Lib.hid hbb
        obtain ⟨⟨ox, oy, op⟩, how⟩ : ∃ p, ownF o.segs (b : Int) = p := ⟨_, rfl⟩
        have C1 := Lib.hid (fun w2 (h : Below w.heap.size w w2) => own_any (.string v0) (.slice na n1 nc) (.slice sa ms sc) (.slice ra n4 rc) (.slice ia n5 ic) (.slice fa n6 fc) ga m gc o.segs (b : Int) ox oy op w2 HM.out (by rw [← HGA.out]; exact (HR.out.below h).sg) (by rw [← HM.out]; exact HF.out.sgl) HOKS.out (by omega) (by have := HBB.out; omega) how)
        have C2 := Lib.hid (fun w2 (h : Below w.heap.size w w2) => rown_any (.string v0) (.slice na n1 nc) (.slice sa ms sc) (.slice ra n4 rc) (.slice ia n5 ic) (.slice fa n6 fc) ga m gc o.segs (b : Int) ox oy op w2 HM.out (by rw [← HGA.out]; exact (HR.out.below h).sg) (by rw [← HM.out]; exact HF.out.sgl) HOKS.out (by omega) (by have := HBB.out; omega) how)
        clear hsb hbb how
        have o0 : W2.cell? ⟨B, 0, none⟩ = some (.string v0) := O2.out.cell 0
        have o1 : W2.cell? ⟨B, 1, none⟩ = some (.slice na n1 nc) := O2.out.cell 1
        have o2 : W2.cell? ⟨B, 2, none⟩ = some (.slice ga m gc) := O2.out.cell 2
        have o3 : W2.cell? ⟨B, 3, none⟩ = some (.slice sa ms sc) := O2.out.cell 3
        have o4 : W2.cell? ⟨B, 4, none⟩ = some (.slice ra n4 rc) := O2.out.cell 4
        have o5 : W2.cell? ⟨B, 5, none⟩ = some (.slice ia n5 ic) := O2.out.cell 5
        have o6 : W2.cell? ⟨B, 6, none⟩ = some (.slice fa n6 fc) := O2.out.cell 6
        go_wp2_with fail
        refine (C1.out _ (B2.out.mono HBW.out)).mono ?_; rintro e W3 ⟨rfl, hb⟩
        have O3 := Lib.hid (boxN_below O2.out hb)
        have B3 := Lib.hid (B2.out.trans (hb.mono (Nat.le_of_lt O2.out.lt)))
        clear hb o0 o1 o2 o3 o4 o5 o6 O2 B2
        go_upto_region 9 with fail
        obtain ⟨W4, hW4⟩ : ∃ W, W3.alloc (.cells #[.int .u64 ox, .int .u64 oy, .int .u64 ox, .int .i64 op, .int .i64 (-1), .bool true] 34) = W := ⟨_, rfl⟩
        rw [hW4]
        have B4 : Hid (Below B w W4) := Lib.hid (by rw [← hW4]; exact B3.out.alloc (by have := O3.out.lt; omega) _)
        have O4 : Hid (BoxN W4 B #[.string v0, .slice na n1 nc, .slice ga m gc, .slice sa ms sc, .slice ra n4 rc, .slice ia n5 ic, .slice fa n6 fc]) := Lib.hid (by rw [← hW4]; exact boxN_below O3.out (bAlloc (Below.refl _ _) _))
        have R4 : Hid (BoxN W4 W3.heap.size #[.int .u64 ox, .int .u64 oy, .int .u64 ox, .int .i64 op, .int .i64 (-1), .bool true]) := Lib.hid (by rw [← hW4]; exact BoxN.new W3 _ _)
        clear hW4 O3 B3
        obtain ⟨R, hR⟩ : ∃ R, W3.heap.size = R := ⟨_, rfl⟩
        rw [hR] at R4 ⊢
        clear hR
        have o0 : W4.cell? ⟨B, 0, none⟩ = some (.string v0) := O4.out.cell 0
        have o1 : W4.cell? ⟨B, 1, none⟩ = some (.slice na n1 nc) := O4.out.cell 1
        have o2 : W4.cell? ⟨B, 2, none⟩ = some (.slice ga m gc) := O4.out.cell 2
        have o3 : W4.cell? ⟨B, 3, none⟩ = some (.slice sa ms sc) := O4.out.cell 3
        have o4 : W4.cell? ⟨B, 4, none⟩ = some (.slice ra n4 rc) := O4.out.cell 4
        have o5 : W4.cell? ⟨B, 5, none⟩ = some (.slice ia n5 ic) := O4.out.cell 5
        have o6 : W4.cell? ⟨B, 6, none⟩ = some (.slice fa n6 fc) := O4.out.cell 6
        have r0 : W4.cell? ⟨R, 0, none⟩ = some (.int .u64 ox) := R4.out.cell 0
        have r1 : W4.cell? ⟨R, 1, none⟩ = some (.int .u64 oy) := R4.out.cell 1
        have r2 : W4.cell? ⟨R, 2, none⟩ = some (.int .u64 ox) := R4.out.cell 2
        have r3 : W4.cell? ⟨R, 3, none⟩ = some (.int .i64 op) := R4.out.cell 3
        have r4 : W4.cell? ⟨R, 4, none⟩ = some (.int .i64 (-1)) := R4.out.cell 4
        have r5 : W4.cell? ⟨R, 5, none⟩ = some (.bool true) := R4.out.cell 5
        have HS0 := Lib.hid (And.intro (o0) (And.intro (o1) (And.intro (o2) (And.intro (o3) (And.intro (o4) (And.intro (o5) (And.intro (o6) (And.intro (r0) (And.intro (r1) (And.intro (r2) (And.intro (r3) (And.intro (r4) (r5)))))))))))))
        have HSd := Lib.hid (And.intro (drewc HS0.out.1) (And.intro (drewc HS0.out.2.1) (And.intro (drewc HS0.out.2.2.1) (And.intro (drewc HS0.out.2.2.2.1) (And.intro (drewc HS0.out.2.2.2.2.1) (And.intro (drewc HS0.out.2.2.2.2.2.1) (And.intro (drewc HS0.out.2.2.2.2.2.2.1) (And.intro (drewc HS0.out.2.2.2.2.2.2.2.1) (And.intro (drewc HS0.out.2.2.2.2.2.2.2.2.1) (And.intro (drewc HS0.out.2.2.2.2.2.2.2.2.2.1) (And.intro (drewc HS0.out.2.2.2.2.2.2.2.2.2.2.1) (And.intro (drewc HS0.out.2.2.2.2.2.2.2.2.2.2.2.1) (drewc HS0.out.2.2.2.2.2.2.2.2.2.2.2.2)))))))))))))
        by_cases hi : i < 0 ∨ (m : Int) ≤ i
        · have hcases : (decide (i < 0) = true) ∨ (decide (i < 0) = false ∧ decide ((m : Int) ≤ i) = true) := by
            rcases hi with hi | hi
            · exact Or.inl (decide_eq_true hi)
            · by_cases h0 : i < 0
              · exact Or.inl (decide_eq_true h0)
              · exact Or.inr ⟨decide_eq_false h0, decide_eq_true hi⟩
          rcases hcases with hd | ⟨hd, hd2⟩
          all_goals
            clear hi
            go_upto_region 10 with fail
            clear o0 o1 o2 o3 o4 o5 o6 r0 r1 r2 r3 r4 r5
            go_region_held3 (fun W => W.cell? ⟨B, 0, none⟩ = some (.string v0) ∧ W.cell? ⟨B, 1, none⟩ = some (.slice na n1 nc) ∧ W.cell? ⟨B, 2, none⟩ = some (.slice ga m gc) ∧ W.cell? ⟨B, 3, none⟩ = some (.slice sa ms sc) ∧ W.cell? ⟨B, 4, none⟩ = some (.slice ra n4 rc) ∧ W.cell? ⟨B, 5, none⟩ = some (.slice ia n5 ic) ∧ W.cell? ⟨B, 6, none⟩ = some (.slice fa n6 fc) ∧ W.cell? ⟨R, 0, none⟩ = some (.int .u64 ox) ∧ W.cell? ⟨R, 1, none⟩ = some (.int .u64 oy) ∧ W.cell? ⟨R, 2, none⟩ = some (.int .u64 ox) ∧ W.cell? ⟨R, 3, none⟩ = some (.int .i64 op) ∧ W.cell? ⟨R, 4, none⟩ = some (.int .i64 (-1)) ∧ W.cell? ⟨R, 5, none⟩ = some (.bool true))
              (first | with_reducible exact HSd.out | with_reducible exact HS5.out | go_keep)
              (first
                | (go_at_call 11; refine (C2.out _ (Below.drew (B4.out.mono HBW.out))).mono ?_; rintro e W5 ⟨rfl, hb⟩; have hb2 : Below W4.heap.size W4 W5 := (by first | exact hb | exact undrewT hb); have HS5 := Lib.hid (And.intro (cell_below hb2 HS0.out.1) (And.intro (cell_below hb2 HS0.out.2.1) (And.intro (cell_below hb2 HS0.out.2.2.1) (And.intro (cell_below hb2 HS0.out.2.2.2.1) (And.intro (cell_below hb2 HS0.out.2.2.2.2.1) (And.intro (cell_below hb2 HS0.out.2.2.2.2.2.1) (And.intro (cell_below hb2 HS0.out.2.2.2.2.2.2.1) (And.intro (cell_below hb2 HS0.out.2.2.2.2.2.2.2.1) (And.intro (cell_below hb2 HS0.out.2.2.2.2.2.2.2.2.1) (And.intro (cell_below hb2 HS0.out.2.2.2.2.2.2.2.2.2.1) (And.intro (cell_below hb2 HS0.out.2.2.2.2.2.2.2.2.2.2.1) (And.intro (cell_below hb2 HS0.out.2.2.2.2.2.2.2.2.2.2.2.1) (cell_below hb2 HS0.out.2.2.2.2.2.2.2.2.2.2.2.2))))))))))))); have B5 := Lib.hid (B4.out.trans (hb2.mono (Nat.le_of_lt O4.out.lt))); clear hb hb2))
            go_wp2_with fail
            go_ret
            exact ⟨by simp, B5.out⟩
        have hi0 : ¬ i < 0 := fun h => hi (Or.inl h)
        have hi1 : ¬ (m : Int) ≤ i := fun h => hi (Or.inr h)
        obtain ⟨k, rfl⟩ : ∃ k : Nat, i = k := ⟨i.toNat, by omega⟩
        have hkm : k < m := by omega
        have hd : decide ((k : Int) < 0) = false := decide_eq_false hi0
        have hd2 : decide ((m : Int) ≤ (k : Int)) = false := decide_eq_false hi1
        have hd2n : decide (m ≤ k) = false := decide_eq_false (by omega)
        have hkl : k < o.segs.length := by rw [HM.out]; exact hkm
        have hsk : o.segs[k]? = some o.segs[k] := List.getElem?_eq_getElem hkl
        have hz := HOKS.out.pz _ (List.getElem_mem hkl)
        have hfl := HOKS.out.fl _ (List.getElem_mem hkl)
        obtain ⟨s, hs⟩ : ∃ s, o.segs[k] = s := ⟨_, rfl⟩
        rw [hs] at hsk hz hfl
        have hpi := permF_in s.flags
        obtain ⟨x, hx⟩ : ∃ x, (b : Int) + s.place = x := ⟨_, rfl⟩
        obtain ⟨y, hy⟩ : ∃ y, x + s.size = y := ⟨_, rfl⟩
        obtain ⟨pm, hpm⟩ : ∃ p, permF s.flags = p := ⟨_, rfl⟩
        have hbb := HBB.out
        have C3 := Lib.hid (fun w2 (h : Below w.heap.size w w2) => part_any (.string v0) (.slice na n1 nc) (.slice sa ms sc) (.slice ra n4 rc) (.slice ia n5 ic) (.slice fa n6 fc) ga m gc o.segs (b : Int) k s x y pm w2 HM.out (by rw [← HGA.out]; exact (HR.out.below h).sg) hkm (by rw [← HM.out]; exact HF.out.sgl) hsk (by omega) hz.1 hz.2.1 hx hy (by omega) (by omega) (by omega) hpm (by omega))
        have C4 := Lib.hid (fun w2 (h : Below w.heap.size w w2) => rpart_any (.string v0) (.slice na n1 nc) (.slice sa ms sc) (.slice ra n4 rc) (.slice ia n5 ic) (.slice fa n6 fc) ga m gc o.segs (b : Int) k s x y pm w2 HM.out (by rw [← HGA.out]; exact (HR.out.below h).sg) hkm (by rw [← HM.out]; exact HF.out.sgl) hsk (by omega) hz.1 hz.2.1 hx hy (by omega) (by omega) (by omega) hpm (by omega))
        clear hi hi0 hi1 hkm hkl hsk hz hfl hs hpi hx hy hpm hbb HS0 HSd r0 r1 r2 r3 r4 r5
        go_wp2_with fail
        refine (C3.out _ (B4.out.mono HBW.out)).mono ?_; rintro e W5 ⟨rfl, hb⟩
        have O5 := Lib.hid (boxN_below O4.out hb)
        have R5 := Lib.hid (boxN_below R4.out hb)
        have B5 := Lib.hid (B4.out.trans (hb.mono (Nat.le_of_lt O4.out.lt)))
        clear hb o0 o1 o2 o3 o4 o5 o6 O4 R4 B4 C3 C1
        go_upto_region 12 with fail
        obtain ⟨W6, hW6⟩ : ∃ W, W5.alloc (.cells #[.int .u64 x, .int .u64 y, .int .u64 x, .int .i64 pm, .int .i64 (-1), .bool true] 34) = W := ⟨_, rfl⟩
        rw [hW6]
        have B6 : Hid (Below B w W6) := Lib.hid (by rw [← hW6]; exact B5.out.alloc (by have := O5.out.lt; omega) _)
        have O6 : Hid (BoxN W6 B #[.string v0, .slice na n1 nc, .slice ga m gc, .slice sa ms sc, .slice ra n4 rc, .slice ia n5 ic, .slice fa n6 fc]) := Lib.hid (by rw [← hW6]; exact boxN_below O5.out (bAlloc (Below.refl _ _) _))
        have R6 : Hid (BoxN W6 R #[.int .u64 ox, .int .u64 oy, .int .u64 ox, .int .i64 op, .int .i64 (-1), .bool true]) := Lib.hid (by rw [← hW6]; exact boxN_below R5.out (bAlloc (Below.refl _ _) _))
        have Q6 : Hid (BoxN W6 W5.heap.size #[.int .u64 x, .int .u64 y, .int .u64 x, .int .i64 pm, .int .i64 (-1), .bool true]) := Lib.hid (by rw [← hW6]; exact BoxN.new W5 _ _)
        clear hW6 O5 R5 B5
        obtain ⟨Q, hQ⟩ : ∃ Q, W5.heap.size = Q := ⟨_, rfl⟩
        rw [hQ] at Q6 ⊢
        clear hQ
        have o0 : W6.cell? ⟨B, 0, none⟩ = some (.string v0) := O6.out.cell 0
        have o1 : W6.cell? ⟨B, 1, none⟩ = some (.slice na n1 nc) := O6.out.cell 1
        have o2 : W6.cell? ⟨B, 2, none⟩ = some (.slice ga m gc) := O6.out.cell 2
        have o3 : W6.cell? ⟨B, 3, none⟩ = some (.slice sa ms sc) := O6.out.cell 3
        have o4 : W6.cell? ⟨B, 4, none⟩ = some (.slice ra n4 rc) := O6.out.cell 4
        have o5 : W6.cell? ⟨B, 5, none⟩ = some (.slice ia n5 ic) := O6.out.cell 5
        have o6 : W6.cell? ⟨B, 6, none⟩ = some (.slice fa n6 fc) := O6.out.cell 6
        have r0 : W6.cell? ⟨R, 0, none⟩ = some (.int .u64 ox) := R6.out.cell 0
        have r1 : W6.cell? ⟨R, 1, none⟩ = some (.int .u64 oy) := R6.out.cell 1
        have r2 : W6.cell? ⟨R, 2, none⟩ = some (.int .u64 ox) := R6.out.cell 2
        have r3 : W6.cell? ⟨R, 3, none⟩ = some (.int .i64 op) := R6.out.cell 3
        have r4 : W6.cell? ⟨R, 4, none⟩ = some (.int .i64 (-1)) := R6.out.cell 4
        have r5 : W6.cell? ⟨R, 5, none⟩ = some (.bool true) := R6.out.cell 5
        have s0 : W6.cell? ⟨Q, 0, none⟩ = some (.int .u64 x) := Q6.out.cell 0
        have s1 : W6.cell? ⟨Q, 1, none⟩ = some (.int .u64 y) := Q6.out.cell 1
        have s2 : W6.cell? ⟨Q, 2, none⟩ = some (.int .u64 x) := Q6.out.cell 2
        have s3 : W6.cell? ⟨Q, 3, none⟩ = some (.int .i64 pm) := Q6.out.cell 3
        have s4 : W6.cell? ⟨Q, 4, none⟩ = some (.int .i64 (-1)) := Q6.out.cell 4
        have s5 : W6.cell? ⟨Q, 5, none⟩ = some (.bool true) := Q6.out.cell 5
        have HS0 := Lib.hid (And.intro (o0) (And.intro (o1) (And.intro (o2) (And.intro (o3) (And.intro (o4) (And.intro (o5) (And.intro (o6) (And.intro (r0) (And.intro (r1) (And.intro (r2) (And.intro (r3) (And.intro (r4) (And.intro (r5) (And.intro (s0) (And.intro (s1) (And.intro (s2) (And.intro (s3) (And.intro (s4) (s5)))))))))))))))))))
        have HSd := Lib.hid (And.intro (drewc HS0.out.1) (And.intro (drewc HS0.out.2.1) (And.intro (drewc HS0.out.2.2.1) (And.intro (drewc HS0.out.2.2.2.1) (And.intro (drewc HS0.out.2.2.2.2.1) (And.intro (drewc HS0.out.2.2.2.2.2.1) (And.intro (drewc HS0.out.2.2.2.2.2.2.1) (And.intro (drewc HS0.out.2.2.2.2.2.2.2.1) (And.intro (drewc HS0.out.2.2.2.2.2.2.2.2.1) (And.intro (drewc HS0.out.2.2.2.2.2.2.2.2.2.1) (And.intro (drewc HS0.out.2.2.2.2.2.2.2.2.2.2.1) (And.intro (drewc HS0.out.2.2.2.2.2.2.2.2.2.2.2.1) (And.intro (drewc HS0.out.2.2.2.2.2.2.2.2.2.2.2.2.1) (And.intro (drewc HS0.out.2.2.2.2.2.2.2.2.2.2.2.2.2.1) (And.intro (drewc HS0.out.2.2.2.2.2.2.2.2.2.2.2.2.2.2.1) (And.intro (drewc HS0.out.2.2.2.2.2.2.2.2.2.2.2.2.2.2.2.1) (And.intro (drewc HS0.out.2.2.2.2.2.2.2.2.2.2.2.2.2.2.2.2.1) (And.intro (drewc HS0.out.2.2.2.2.2.2.2.2.2.2.2.2.2.2.2.2.2.1) (drewc HS0.out.2.2.2.2.2.2.2.2.2.2.2.2.2.2.2.2.2.2)))))))))))))))))))
        clear o0 o1 o2 o3 o4 o5 o6 r0 r1 r2 r3 r4 r5 s0 s1 s2 s3 s4 s5
        go_region_held3 (fun W => W.cell? ⟨B, 0, none⟩ = some (.string v0) ∧ W.cell? ⟨B, 1, none⟩ = some (.slice na n1 nc) ∧ W.cell? ⟨B, 2, none⟩ = some (.slice ga m gc) ∧ W.cell? ⟨B, 3, none⟩ = some (.slice sa ms sc) ∧ W.cell? ⟨B, 4, none⟩ = some (.slice ra n4 rc) ∧ W.cell? ⟨B, 5, none⟩ = some (.slice ia n5 ic) ∧ W.cell? ⟨B, 6, none⟩ = some (.slice fa n6 fc) ∧ W.cell? ⟨R, 0, none⟩ = some (.int .u64 ox) ∧ W.cell? ⟨R, 1, none⟩ = some (.int .u64 oy) ∧ W.cell? ⟨R, 2, none⟩ = some (.int .u64 ox) ∧ W.cell? ⟨R, 3, none⟩ = some (.int .i64 op) ∧ W.cell? ⟨R, 4, none⟩ = some (.int .i64 (-1)) ∧ W.cell? ⟨R, 5, none⟩ = some (.bool true) ∧ W.cell? ⟨Q, 0, none⟩ = some (.int .u64 x) ∧ W.cell? ⟨Q, 1, none⟩ = some (.int .u64 y) ∧ W.cell? ⟨Q, 2, none⟩ = some (.int .u64 x) ∧ W.cell? ⟨Q, 3, none⟩ = some (.int .i64 pm) ∧ W.cell? ⟨Q, 4, none⟩ = some (.int .i64 (-1)) ∧ W.cell? ⟨Q, 5, none⟩ = some (.bool true))
          (first | with_reducible exact HSd.out | with_reducible exact HS7.out | with_reducible exact HS8.out | go_keep)
          (first
            | (go_at_call 11; refine (C2.out _ (Below.drew (B6.out.mono HBW.out))).mono ?_; rintro e W7 ⟨rfl, hb⟩; have hb2 : Below W6.heap.size W6 W7 := (by first | exact hb | exact undrewT hb); have HS7 := Lib.hid (And.intro (cell_below hb2 HS0.out.1) (And.intro (cell_below hb2 HS0.out.2.1) (And.intro (cell_below hb2 HS0.out.2.2.1) (And.intro (cell_below hb2 HS0.out.2.2.2.1) (And.intro (cell_below hb2 HS0.out.2.2.2.2.1) (And.intro (cell_below hb2 HS0.out.2.2.2.2.2.1) (And.intro (cell_below hb2 HS0.out.2.2.2.2.2.2.1) (And.intro (cell_below hb2 HS0.out.2.2.2.2.2.2.2.1) (And.intro (cell_below hb2 HS0.out.2.2.2.2.2.2.2.2.1) (And.intro (cell_below hb2 HS0.out.2.2.2.2.2.2.2.2.2.1) (And.intro (cell_below hb2 HS0.out.2.2.2.2.2.2.2.2.2.2.1) (And.intro (cell_below hb2 HS0.out.2.2.2.2.2.2.2.2.2.2.2.1) (And.intro (cell_below hb2 HS0.out.2.2.2.2.2.2.2.2.2.2.2.2.1) (And.intro (cell_below hb2 HS0.out.2.2.2.2.2.2.2.2.2.2.2.2.2.1) (And.intro (cell_below hb2 HS0.out.2.2.2.2.2.2.2.2.2.2.2.2.2.2.1) (And.intro (cell_below hb2 HS0.out.2.2.2.2.2.2.2.2.2.2.2.2.2.2.2.1) (And.intro (cell_below hb2 HS0.out.2.2.2.2.2.2.2.2.2.2.2.2.2.2.2.2.1) (And.intro (cell_below hb2 HS0.out.2.2.2.2.2.2.2.2.2.2.2.2.2.2.2.2.2.1) (cell_below hb2 HS0.out.2.2.2.2.2.2.2.2.2.2.2.2.2.2.2.2.2.2))))))))))))))))))); have B7 := Lib.hid (B6.out.trans (hb2.mono (Nat.le_of_lt O6.out.lt))); have L7 := Lib.hid (Nat.lt_of_lt_of_le O6.out.lt hb2.size); clear hb hb2)
            | (go_at_call 13; refine (C4.out _ (B7.out.mono HBW.out)).mono ?_; rintro e W8 ⟨rfl, hb⟩; have HS8 := Lib.hid (And.intro (cell_below hb HS7.out.1) (And.intro (cell_below hb HS7.out.2.1) (And.intro (cell_below hb HS7.out.2.2.1) (And.intro (cell_below hb HS7.out.2.2.2.1) (And.intro (cell_below hb HS7.out.2.2.2.2.1) (And.intro (cell_below hb HS7.out.2.2.2.2.2.1) (And.intro (cell_below hb HS7.out.2.2.2.2.2.2.1) (And.intro (cell_below hb HS7.out.2.2.2.2.2.2.2.1) (And.intro (cell_below hb HS7.out.2.2.2.2.2.2.2.2.1) (And.intro (cell_below hb HS7.out.2.2.2.2.2.2.2.2.2.1) (And.intro (cell_below hb HS7.out.2.2.2.2.2.2.2.2.2.2.1) (And.intro (cell_below hb HS7.out.2.2.2.2.2.2.2.2.2.2.2.1) (And.intro (cell_below hb HS7.out.2.2.2.2.2.2.2.2.2.2.2.2.1) (And.intro (cell_below hb HS7.out.2.2.2.2.2.2.2.2.2.2.2.2.2.1) (And.intro (cell_below hb HS7.out.2.2.2.2.2.2.2.2.2.2.2.2.2.2.1) (And.intro (cell_below hb HS7.out.2.2.2.2.2.2.2.2.2.2.2.2.2.2.2.1) (And.intro (cell_below hb HS7.out.2.2.2.2.2.2.2.2.2.2.2.2.2.2.2.2.1) (And.intro (cell_below hb HS7.out.2.2.2.2.2.2.2.2.2.2.2.2.2.2.2.2.2.1) (cell_below hb HS7.out.2.2.2.2.2.2.2.2.2.2.2.2.2.2.2.2.2.2))))))))))))))))))); have B8 := Lib.hid (B7.out.trans (hb.mono (Nat.le_of_lt L7.out))); clear hb))
        go_wp2_with fail
        go_ret
        exact ⟨by simp, B8.out⟩
    · have d0 : decide ((0 : Int) ≤ flags) = true := decide_eq_true f0
      have d1 : decide (flags ≤ 7) = false := decide_eq_false f1
      clear f0 f1
      go_upto_region 6 with fail
      cases q1 with
      | false =>
        go_wp2_with fail
        go_ret
        exact ⟨by simp, B2.out⟩
      | true =>
        obtain ⟨hsb, hbb⟩ := right_facts HQ.out
        have HOKS := Lib.hid (segs_ok hsb)
        have HBB := Lib.hid hbb
        obtain ⟨⟨ox, oy, op⟩, how⟩ : ∃ p, ownF o.segs (b : Int) = p := ⟨_, rfl⟩
        have C1 := Lib.hid (fun w2 (h : Below w.heap.size w w2) => own_any (.string v0) (.slice na n1 nc) (.slice sa ms sc) (.slice ra n4 rc) (.slice ia n5 ic) (.slice fa n6 fc) ga m gc o.segs (b : Int) ox oy op w2 HM.out (by rw [← HGA.out]; exact (HR.out.below h).sg) (by rw [← HM.out]; exact HF.out.sgl) HOKS.out (by omega) (by have := HBB.out; omega) how)
        have C2 := Lib.hid (fun w2 (h : Below w.heap.size w w2) => rown_any (.string v0) (.slice na n1 nc) (.slice sa ms sc) (.slice ra n4 rc) (.slice ia n5 ic) (.slice fa n6 fc) ga m gc o.segs (b : Int) ox oy op w2 HM.out (by rw [← HGA.out]; exact (HR.out.below h).sg) (by rw [← HM.out]; exact HF.out.sgl) HOKS.out (by omega) (by have := HBB.out; omega) how)
        clear hsb hbb how
        have o0 : W2.cell? ⟨B, 0, none⟩ = some (.string v0) := O2.out.cell 0
        have o1 : W2.cell? ⟨B, 1, none⟩ = some (.slice na n1 nc) := O2.out.cell 1
        have o2 : W2.cell? ⟨B, 2, none⟩ = some (.slice ga m gc) := O2.out.cell 2
        have o3 : W2.cell? ⟨B, 3, none⟩ = some (.slice sa ms sc) := O2.out.cell 3
        have o4 : W2.cell? ⟨B, 4, none⟩ = some (.slice ra n4 rc) := O2.out.cell 4
        have o5 : W2.cell? ⟨B, 5, none⟩ = some (.slice ia n5 ic) := O2.out.cell 5
        have o6 : W2.cell? ⟨B, 6, none⟩ = some (.slice fa n6 fc) := O2.out.cell 6
        go_wp2_with fail
        refine (C1.out _ (B2.out.mono HBW.out)).mono ?_; rintro e W3 ⟨rfl, hb⟩
        have O3 := Lib.hid (boxN_below O2.out hb)
        have B3 := Lib.hid (B2.out.trans (hb.mono (Nat.le_of_lt O2.out.lt)))
        clear hb o0 o1 o2 o3 o4 o5 o6 O2 B2
        go_upto_region 9 with fail
        obtain ⟨W4, hW4⟩ : ∃ W, W3.alloc (.cells #[.int .u64 ox, .int .u64 oy, .int .u64 ox, .int .i64 op, .int .i64 (-1), .bool true] 34) = W := ⟨_, rfl⟩
        rw [hW4]
        have B4 : Hid (Below B w W4) := Lib.hid (by rw [← hW4]; exact B3.out.alloc (by have := O3.out.lt; omega) _)
        have O4 : Hid (BoxN W4 B #[.string v0, .slice na n1 nc, .slice ga m gc, .slice sa ms sc, .slice ra n4 rc, .slice ia n5 ic, .slice fa n6 fc]) := Lib.hid (by rw [← hW4]; exact boxN_below O3.out (bAlloc (Below.refl _ _) _))
        have R4 : Hid (BoxN W4 W3.heap.size #[.int .u64 ox, .int .u64 oy, .int .u64 ox, .int .i64 op, .int .i64 (-1), .bool true]) := Lib.hid (by rw [← hW4]; exact BoxN.new W3 _ _)
        clear hW4 O3 B3
        obtain ⟨R, hR⟩ : ∃ R, W3.heap.size = R := ⟨_, rfl⟩
        rw [hR] at R4 ⊢
        clear hR
        have o0 : W4.cell? ⟨B, 0, none⟩ = some (.string v0) := O4.out.cell 0
        have o1 : W4.cell? ⟨B, 1, none⟩ = some (.slice na n1 nc) := O4.out.cell 1
        have o2 : W4.cell? ⟨B, 2, none⟩ = some (.slice ga m gc) := O4.out.cell 2
        have o3 : W4.cell? ⟨B, 3, none⟩ = some (.slice sa ms sc) := O4.out.cell 3
        have o4 : W4.cell? ⟨B, 4, none⟩ = some (.slice ra n4 rc) := O4.out.cell 4
        have o5 : W4.cell? ⟨B, 5, none⟩ = some (.slice ia n5 ic) := O4.out.cell 5
        have o6 : W4.cell? ⟨B, 6, none⟩ = some (.slice fa n6 fc) := O4.out.cell 6
        have r0 : W4.cell? ⟨R, 0, none⟩ = some (.int .u64 ox) := R4.out.cell 0
        have r1 : W4.cell? ⟨R, 1, none⟩ = some (.int .u64 oy) := R4.out.cell 1
        have r2 : W4.cell? ⟨R, 2, none⟩ = some (.int .u64 ox) := R4.out.cell 2
        have r3 : W4.cell? ⟨R, 3, none⟩ = some (.int .i64 op) := R4.out.cell 3
        have r4 : W4.cell? ⟨R, 4, none⟩ = some (.int .i64 (-1)) := R4.out.cell 4
        have r5 : W4.cell? ⟨R, 5, none⟩ = some (.bool true) := R4.out.cell 5
        have HS0 := Lib.hid (And.intro (o0) (And.intro (o1) (And.intro (o2) (And.intro (o3) (And.intro (o4) (And.intro (o5) (And.intro (o6) (And.intro (r0) (And.intro (r1) (And.intro (r2) (And.intro (r3) (And.intro (r4) (r5)))))))))))))
        have HSd := Lib.hid (And.intro (drewc HS0.out.1) (And.intro (drewc HS0.out.2.1) (And.intro (drewc HS0.out.2.2.1) (And.intro (drewc HS0.out.2.2.2.1) (And.intro (drewc HS0.out.2.2.2.2.1) (And.intro (drewc HS0.out.2.2.2.2.2.1) (And.intro (drewc HS0.out.2.2.2.2.2.2.1) (And.intro (drewc HS0.out.2.2.2.2.2.2.2.1) (And.intro (drewc HS0.out.2.2.2.2.2.2.2.2.1) (And.intro (drewc HS0.out.2.2.2.2.2.2.2.2.2.1) (And.intro (drewc HS0.out.2.2.2.2.2.2.2.2.2.2.1) (And.intro (drewc HS0.out.2.2.2.2.2.2.2.2.2.2.2.1) (drewc HS0.out.2.2.2.2.2.2.2.2.2.2.2.2)))))))))))))
        by_cases hi : i < 0 ∨ (m : Int) ≤ i
        · have hcases : (decide (i < 0) = true) ∨ (decide (i < 0) = false ∧ decide ((m : Int) ≤ i) = true) := by
            rcases hi with hi | hi
            · exact Or.inl (decide_eq_true hi)
            · by_cases h0 : i < 0
              · exact Or.inl (decide_eq_true h0)
              · exact Or.inr ⟨decide_eq_false h0, decide_eq_true hi⟩
          rcases hcases with hd | ⟨hd, hd2⟩
          all_goals
            clear hi
            go_upto_region 10 with fail
            clear o0 o1 o2 o3 o4 o5 o6 r0 r1 r2 r3 r4 r5
            go_region_held3 (fun W => W.cell? ⟨B, 0, none⟩ = some (.string v0) ∧ W.cell? ⟨B, 1, none⟩ = some (.slice na n1 nc) ∧ W.cell? ⟨B, 2, none⟩ = some (.slice ga m gc) ∧ W.cell? ⟨B, 3, none⟩ = some (.slice sa ms sc) ∧ W.cell? ⟨B, 4, none⟩ = some (.slice ra n4 rc) ∧ W.cell? ⟨B, 5, none⟩ = some (.slice ia n5 ic) ∧ W.cell? ⟨B, 6, none⟩ = some (.slice fa n6 fc) ∧ W.cell? ⟨R, 0, none⟩ = some (.int .u64 ox) ∧ W.cell? ⟨R, 1, none⟩ = some (.int .u64 oy) ∧ W.cell? ⟨R, 2, none⟩ = some (.int .u64 ox) ∧ W.cell? ⟨R, 3, none⟩ = some (.int .i64 op) ∧ W.cell? ⟨R, 4, none⟩ = some (.int .i64 (-1)) ∧ W.cell? ⟨R, 5, none⟩ = some (.bool true))
              (first | with_reducible exact HSd.out | with_reducible exact HS5.out | go_keep)
              (first
                | (go_at_call 11; refine (C2.out _ (Below.drew (B4.out.mono HBW.out))).mono ?_; rintro e W5 ⟨rfl, hb⟩; have hb2 : Below W4.heap.size W4 W5 := (by first | exact hb | exact undrewT hb); have HS5 := Lib.hid (And.intro (cell_below hb2 HS0.out.1) (And.intro (cell_below hb2 HS0.out.2.1) (And.intro (cell_below hb2 HS0.out.2.2.1) (And.intro (cell_below hb2 HS0.out.2.2.2.1) (And.intro (cell_below hb2 HS0.out.2.2.2.2.1) (And.intro (cell_below hb2 HS0.out.2.2.2.2.2.1) (And.intro (cell_below hb2 HS0.out.2.2.2.2.2.2.1) (And.intro (cell_below hb2 HS0.out.2.2.2.2.2.2.2.1) (And.intro (cell_below hb2 HS0.out.2.2.2.2.2.2.2.2.1) (And.intro (cell_below hb2 HS0.out.2.2.2.2.2.2.2.2.2.1) (And.intro (cell_below hb2 HS0.out.2.2.2.2.2.2.2.2.2.2.1) (And.intro (cell_below hb2 HS0.out.2.2.2.2.2.2.2.2.2.2.2.1) (cell_below hb2 HS0.out.2.2.2.2.2.2.2.2.2.2.2.2))))))))))))); have B5 := Lib.hid (B4.out.trans (hb2.mono (Nat.le_of_lt O4.out.lt))); clear hb hb2))
            go_wp2_with fail
            go_ret
            exact ⟨by simp, B5.out⟩
        have hi0 : ¬ i < 0 := fun h => hi (Or.inl h)
        have hi1 : ¬ (m : Int) ≤ i := fun h => hi (Or.inr h)
        obtain ⟨k, rfl⟩ : ∃ k : Nat, i = k := ⟨i.toNat, by omega⟩
        have hkm : k < m := by omega
        have hd : decide ((k : Int) < 0) = false := decide_eq_false hi0
        have hd2 : decide ((m : Int) ≤ (k : Int)) = false := decide_eq_false hi1
        have hd2n : decide (m ≤ k) = false := decide_eq_false (by omega)
        have hkl : k < o.segs.length := by rw [HM.out]; exact hkm
        have hsk : o.segs[k]? = some o.segs[k] := List.getElem?_eq_getElem hkl
        have hz := HOKS.out.pz _ (List.getElem_mem hkl)
        have hfl := HOKS.out.fl _ (List.getElem_mem hkl)
        obtain ⟨s, hs⟩ : ∃ s, o.segs[k] = s := ⟨_, rfl⟩
        rw [hs] at hsk hz hfl
        have hpi := permF_in s.flags
        obtain ⟨x, hx⟩ : ∃ x, (b : Int) + s.place = x := ⟨_, rfl⟩
        obtain ⟨y, hy⟩ : ∃ y, x + s.size = y := ⟨_, rfl⟩
        obtain ⟨pm, hpm⟩ : ∃ p, permF s.flags = p := ⟨_, rfl⟩
        have hbb := HBB.out
        have C3 := Lib.hid (fun w2 (h : Below w.heap.size w w2) => part_any (.string v0) (.slice na n1 nc) (.slice sa ms sc) (.slice ra n4 rc) (.slice ia n5 ic) (.slice fa n6 fc) ga m gc o.segs (b : Int) k s x y pm w2 HM.out (by rw [← HGA.out]; exact (HR.out.below h).sg) hkm (by rw [← HM.out]; exact HF.out.sgl) hsk (by omega) hz.1 hz.2.1 hx hy (by omega) (by omega) (by omega) hpm (by omega))
        have C4 := Lib.hid (fun w2 (h : Below w.heap.size w w2) => rpart_any (.string v0) (.slice na n1 nc) (.slice sa ms sc) (.slice ra n4 rc) (.slice ia n5 ic) (.slice fa n6 fc) ga m gc o.segs (b : Int) k s x y pm w2 HM.out (by rw [← HGA.out]; exact (HR.out.below h).sg) hkm (by rw [← HM.out]; exact HF.out.sgl) hsk (by omega) hz.1 hz.2.1 hx hy (by omega) (by omega) (by omega) hpm (by omega))
        clear hi hi0 hi1 hkm hkl hsk hz hfl hs hpi hx hy hpm hbb HS0 HSd r0 r1 r2 r3 r4 r5
        go_wp2_with fail
        refine (C3.out _ (B4.out.mono HBW.out)).mono ?_; rintro e W5 ⟨rfl, hb⟩
        have O5 := Lib.hid (boxN_below O4.out hb)
        have R5 := Lib.hid (boxN_below R4.out hb)
        have B5 := Lib.hid (B4.out.trans (hb.mono (Nat.le_of_lt O4.out.lt)))
        clear hb o0 o1 o2 o3 o4 o5 o6 O4 R4 B4 C3 C1
        go_upto_region 12 with fail
        obtain ⟨W6, hW6⟩ : ∃ W, W5.alloc (.cells #[.int .u64 x, .int .u64 y, .int .u64 x, .int .i64 pm, .int .i64 (-1), .bool true] 34) = W := ⟨_, rfl⟩
        rw [hW6]
        have B6 : Hid (Below B w W6) := Lib.hid (by rw [← hW6]; exact B5.out.alloc (by have := O5.out.lt; omega) _)
        have O6 : Hid (BoxN W6 B #[.string v0, .slice na n1 nc, .slice ga m gc, .slice sa ms sc, .slice ra n4 rc, .slice ia n5 ic, .slice fa n6 fc]) := Lib.hid (by rw [← hW6]; exact boxN_below O5.out (bAlloc (Below.refl _ _) _))
        have R6 : Hid (BoxN W6 R #[.int .u64 ox, .int .u64 oy, .int .u64 ox, .int .i64 op, .int .i64 (-1), .bool true]) := Lib.hid (by rw [← hW6]; exact boxN_below R5.out (bAlloc (Below.refl _ _) _))
        have Q6 : Hid (BoxN W6 W5.heap.size #[.int .u64 x, .int .u64 y, .int .u64 x, .int .i64 pm, .int .i64 (-1), .bool true]) := Lib.hid (by rw [← hW6]; exact BoxN.new W5 _ _)
        clear hW6 O5 R5 B5
        obtain ⟨Q, hQ⟩ : ∃ Q, W5.heap.size = Q := ⟨_, rfl⟩
        rw [hQ] at Q6 ⊢
        clear hQ
        have o0 : W6.cell? ⟨B, 0, none⟩ = some (.string v0) := O6.out.cell 0
        have o1 : W6.cell? ⟨B, 1, none⟩ = some (.slice na n1 nc) := O6.out.cell 1
        have o2 : W6.cell? ⟨B, 2, none⟩ = some (.slice ga m gc) := O6.out.cell 2
        have o3 : W6.cell? ⟨B, 3, none⟩ = some (.slice sa ms sc) := O6.out.cell 3
        have o4 : W6.cell? ⟨B, 4, none⟩ = some (.slice ra n4 rc) := O6.out.cell 4
        have o5 : W6.cell? ⟨B, 5, none⟩ = some (.slice ia n5 ic) := O6.out.cell 5
        have o6 : W6.cell? ⟨B, 6, none⟩ = some (.slice fa n6 fc) := O6.out.cell 6
        have r0 : W6.cell? ⟨R, 0, none⟩ = some (.int .u64 ox) := R6.out.cell 0
        have r1 : W6.cell? ⟨R, 1, none⟩ = some (.int .u64 oy) := R6.out.cell 1
        have r2 : W6.cell? ⟨R, 2, none⟩ = some (.int .u64 ox) := R6.out.cell 2
        have r3 : W6.cell? ⟨R, 3, none⟩ = some (.int .i64 op) := R6.out.cell 3
        have r4 : W6.cell? ⟨R, 4, none⟩ = some (.int .i64 (-1)) := R6.out.cell 4
        have r5 : W6.cell? ⟨R, 5, none⟩ = some (.bool true) := R6.out.cell 5
        have s0 : W6.cell? ⟨Q, 0, none⟩ = some (.int .u64 x) := Q6.out.cell 0
        have s1 : W6.cell? ⟨Q, 1, none⟩ = some (.int .u64 y) := Q6.out.cell 1
        have s2 : W6.cell? ⟨Q, 2, none⟩ = some (.int .u64 x) := Q6.out.cell 2
        have s3 : W6.cell? ⟨Q, 3, none⟩ = some (.int .i64 pm) := Q6.out.cell 3
        have s4 : W6.cell? ⟨Q, 4, none⟩ = some (.int .i64 (-1)) := Q6.out.cell 4
        have s5 : W6.cell? ⟨Q, 5, none⟩ = some (.bool true) := Q6.out.cell 5
        have HS0 := Lib.hid (And.intro (o0) (And.intro (o1) (And.intro (o2) (And.intro (o3) (And.intro (o4) (And.intro (o5) (And.intro (o6) (And.intro (r0) (And.intro (r1) (And.intro (r2) (And.intro (r3) (And.intro (r4) (And.intro (r5) (And.intro (s0) (And.intro (s1) (And.intro (s2) (And.intro (s3) (And.intro (s4) (s5)))))))))))))))))))
        have HSd := Lib.hid (And.intro (drewc HS0.out.1) (And.intro (drewc HS0.out.2.1) (And.intro (drewc HS0.out.2.2.1) (And.intro (drewc HS0.out.2.2.2.1) (And.intro (drewc HS0.out.2.2.2.2.1) (And.intro (drewc HS0.out.2.2.2.2.2.1) (And.intro (drewc HS0.out.2.2.2.2.2.2.1) (And.intro (drewc HS0.out.2.2.2.2.2.2.2.1) (And.intro (drewc HS0.out.2.2.2.2.2.2.2.2.1) (And.intro (drewc HS0.out.2.2.2.2.2.2.2.2.2.1) (And.intro (drewc HS0.out.2.2.2.2.2.2.2.2.2.2.1) (And.intro (drewc HS0.out.2.2.2.2.2.2.2.2.2.2.2.1) (And.intro (drewc HS0.out.2.2.2.2.2.2.2.2.2.2.2.2.1) (And.intro (drewc HS0.out.2.2.2.2.2.2.2.2.2.2.2.2.2.1) (And.intro (drewc HS0.out.2.2.2.2.2.2.2.2.2.2.2.2.2.2.1) (And.intro (drewc HS0.out.2.2.2.2.2.2.2.2.2.2.2.2.2.2.2.1) (And.intro (drewc HS0.out.2.2.2.2.2.2.2.2.2.2.2.2.2.2.2.2.1) (And.intro (drewc HS0.out.2.2.2.2.2.2.2.2.2.2.2.2.2.2.2.2.2.1) (drewc HS0.out.2.2.2.2.2.2.2.2.2.2.2.2.2.2.2.2.2.2)))))))))))))))))))
        clear o0 o1 o2 o3 o4 o5 o6 r0 r1 r2 r3 r4 r5 s0 s1 s2 s3 s4 s5
        go_region_held3 (fun W => W.cell? ⟨B, 0, none⟩ = some (.string v0) ∧ W.cell? ⟨B, 1, none⟩ = some (.slice na n1 nc) ∧ W.cell? ⟨B, 2, none⟩ = some (.slice ga m gc) ∧ W.cell? ⟨B, 3, none⟩ = some (.slice sa ms sc) ∧ W.cell? ⟨B, 4, none⟩ = some (.slice ra n4 rc) ∧ W.cell? ⟨B, 5, none⟩ = some (.slice ia n5 ic) ∧ W.cell? ⟨B, 6, none⟩ = some (.slice fa n6 fc) ∧ W.cell? ⟨R, 0, none⟩ = some (.int .u64 ox) ∧ W.cell? ⟨R, 1, none⟩ = some (.int .u64 oy) ∧ W.cell? ⟨R, 2, none⟩ = some (.int .u64 ox) ∧ W.cell? ⟨R, 3, none⟩ = some (.int .i64 op) ∧ W.cell? ⟨R, 4, none⟩ = some (.int .i64 (-1)) ∧ W.cell? ⟨R, 5, none⟩ = some (.bool true) ∧ W.cell? ⟨Q, 0, none⟩ = some (.int .u64 x) ∧ W.cell? ⟨Q, 1, none⟩ = some (.int .u64 y) ∧ W.cell? ⟨Q, 2, none⟩ = some (.int .u64 x) ∧ W.cell? ⟨Q, 3, none⟩ = some (.int .i64 pm) ∧ W.cell? ⟨Q, 4, none⟩ = some (.int .i64 (-1)) ∧ W.cell? ⟨Q, 5, none⟩ = some (.bool true))
          (first | with_reducible exact HSd.out | with_reducible exact HS7.out | with_reducible exact HS8.out | go_keep)
          (first
            | (go_at_call 11; refine (C2.out _ (Below.drew (B6.out.mono HBW.out))).mono ?_; rintro e W7 ⟨rfl, hb⟩; have hb2 : Below W6.heap.size W6 W7 := (by first | exact hb | exact undrewT hb); have HS7 := Lib.hid (And.intro (cell_below hb2 HS0.out.1) (And.intro (cell_below hb2 HS0.out.2.1) (And.intro (cell_below hb2 HS0.out.2.2.1) (And.intro (cell_below hb2 HS0.out.2.2.2.1) (And.intro (cell_below hb2 HS0.out.2.2.2.2.1) (And.intro (cell_below hb2 HS0.out.2.2.2.2.2.1) (And.intro (cell_below hb2 HS0.out.2.2.2.2.2.2.1) (And.intro (cell_below hb2 HS0.out.2.2.2.2.2.2.2.1) (And.intro (cell_below hb2 HS0.out.2.2.2.2.2.2.2.2.1) (And.intro (cell_below hb2 HS0.out.2.2.2.2.2.2.2.2.2.1) (And.intro (cell_below hb2 HS0.out.2.2.2.2.2.2.2.2.2.2.1) (And.intro (cell_below hb2 HS0.out.2.2.2.2.2.2.2.2.2.2.2.1) (And.intro (cell_below hb2 HS0.out.2.2.2.2.2.2.2.2.2.2.2.2.1) (And.intro (cell_below hb2 HS0.out.2.2.2.2.2.2.2.2.2.2.2.2.2.1) (And.intro (cell_below hb2 HS0.out.2.2.2.2.2.2.2.2.2.2.2.2.2.2.1) (And.intro (cell_below hb2 HS0.out.2.2.2.2.2.2.2.2.2.2.2.2.2.2.2.1) (And.intro (cell_below hb2 HS0.out.2.2.2.2.2.2.2.2.2.2.2.2.2.2.2.2.1) (And.intro (cell_below hb2 HS0.out.2.2.2.2.2.2.2.2.2.2.2.2.2.2.2.2.2.1) (cell_below hb2 HS0.out.2.2.2.2.2.2.2.2.2.2.2.2.2.2.2.2.2.2))))))))))))))))))); have B7 := Lib.hid (B6.out.trans (hb2.mono (Nat.le_of_lt O6.out.lt))); have L7 := Lib.hid (Nat.lt_of_lt_of_le O6.out.lt hb2.size); clear hb hb2)
            | (go_at_call 13; refine (C4.out _ (B7.out.mono HBW.out)).mono ?_; rintro e W8 ⟨rfl, hb⟩; have HS8 := Lib.hid (And.intro (cell_below hb HS7.out.1) (And.intro (cell_below hb HS7.out.2.1) (And.intro (cell_below hb HS7.out.2.2.1) (And.intro (cell_below hb HS7.out.2.2.2.1) (And.intro (cell_below hb HS7.out.2.2.2.2.1) (And.intro (cell_below hb HS7.out.2.2.2.2.2.1) (And.intro (cell_below hb HS7.out.2.2.2.2.2.2.1) (And.intro (cell_below hb HS7.out.2.2.2.2.2.2.2.1) (And.intro (cell_below hb HS7.out.2.2.2.2.2.2.2.2.1) (And.intro (cell_below hb HS7.out.2.2.2.2.2.2.2.2.2.1) (And.intro (cell_below hb HS7.out.2.2.2.2.2.2.2.2.2.2.1) (And.intro (cell_below hb HS7.out.2.2.2.2.2.2.2.2.2.2.2.1) (And.intro (cell_below hb HS7.out.2.2.2.2.2.2.2.2.2.2.2.2.1) (And.intro (cell_below hb HS7.out.2.2.2.2.2.2.2.2.2.2.2.2.2.1) (And.intro (cell_below hb HS7.out.2.2.2.2.2.2.2.2.2.2.2.2.2.2.1) (And.intro (cell_below hb HS7.out.2.2.2.2.2.2.2.2.2.2.2.2.2.2.2.1) (And.intro (cell_below hb HS7.out.2.2.2.2.2.2.2.2.2.2.2.2.2.2.2.2.1) (And.intro (cell_below hb HS7.out.2.2.2.2.2.2.2.2.2.2.2.2.2.2.2.2.2.1) (cell_below hb HS7.out.2.2.2.2.2.2.2.2.2.2.2.2.2.2.2.2.2.2))))))))))))))))))); have B8 := Lib.hid (B7.out.trans (hb.mono (Nat.le_of_lt L7.out))); clear hb))
        go_wp2_with fail
        go_ret
        exact ⟨by simp, B8.out⟩
  · have d0 : decide ((0 : Int) ≤ flags) = false := decide_eq_false f0
    clear f0
    go_upto_region 6 with fail
    cases q1 with
    | false =>
      go_wp2_with fail
      go_ret
      exact ⟨by simp, B2.out⟩
    | true =>
      obtain ⟨hsb, hbb⟩ := right_facts HQ.out
      have HOKS := Lib.hid (segs_ok hsb)
      have HBB := Lib.hid hbb
      obtain ⟨⟨ox, oy, op⟩, how⟩ : ∃ p, ownF o.segs (b : Int) = p := ⟨_, rfl⟩
      have C1 := Lib.hid (fun w2 (h : Below w.heap.size w w2) => own_any (.string v0) (.slice na n1 nc) (.slice sa ms sc) (.slice ra n4 rc) (.slice ia n5 ic) (.slice fa n6 fc) ga m gc o.segs (b : Int) ox oy op w2 HM.out (by rw [← HGA.out]; exact (HR.out.below h).sg) (by rw [← HM.out]; exact HF.out.sgl) HOKS.out (by omega) (by have := HBB.out; omega) how)
      have C2 := Lib.hid (fun w2 (h : Below w.heap.size w w2) => rown_any (.string v0) (.slice na n1 nc) (.slice sa ms sc) (.slice ra n4 rc) (.slice ia n5 ic) (.slice fa n6 fc) ga m gc o.segs (b : Int) ox oy op w2 HM.out (by rw [← HGA.out]; exact (HR.out.below h).sg) (by rw [← HM.out]; exact HF.out.sgl) HOKS.out (by omega) (by have := HBB.out; omega) how)
      clear hsb hbb how
      have o0 : W2.cell? ⟨B, 0, none⟩ = some (.string v0) := O2.out.cell 0
      have o1 : W2.cell? ⟨B, 1, none⟩ = some (.slice na n1 nc) := O2.out.cell 1
      have o2 : W2.cell? ⟨B, 2, none⟩ = some (.slice ga m gc) := O2.out.cell 2
      have o3 : W2.cell? ⟨B, 3, none⟩ = some (.slice sa ms sc) := O2.out.cell 3
      have o4 : W2.cell? ⟨B, 4, none⟩ = some (.slice ra n4 rc) := O2.out.cell 4
      have o5 : W2.cell? ⟨B, 5, none⟩ = some (.slice ia n5 ic) := O2.out.cell 5
      have o6 : W2.cell? ⟨B, 6, none⟩ = some (.slice fa n6 fc) := O2.out.cell 6
      go_wp2_with fail
      refine (C1.out _ (B2.out.mono HBW.out)).mono ?_; rintro e W3 ⟨rfl, hb⟩
      have O3 := Lib.hid (boxN_below O2.out hb)
      have B3 := Lib.hid (B2.out.trans (hb.mono (Nat.le_of_lt O2.out.lt)))
      clear hb o0 o1 o2 o3 o4 o5 o6 O2 B2
      go_upto_region 9 with fail
      obtain ⟨W4, hW4⟩ : ∃ W, W3.alloc (.cells #[.int .u64 ox, .int .u64 oy, .int .u64 ox, .int .i64 op, .int .i64 (-1), .bool true] 34) = W := ⟨_, rfl⟩
      rw [hW4]
      have B4 : Hid (Below B w W4) := Lib.hid (by rw [← hW4]; exact B3.out.alloc (by have := O3.out.lt; omega) _)
      have O4 : Hid (BoxN W4 B #[.string v0, .slice na n1 nc, .slice ga m gc, .slice sa ms sc, .slice ra n4 rc, .slice ia n5 ic, .slice fa n6 fc]) := Lib.hid (by rw [← hW4]; exact boxN_below O3.out (bAlloc (Below.refl _ _) _))
      have R4 : Hid (BoxN W4 W3.heap.size #[.int .u64 ox, .int .u64 oy, .int .u64 ox, .int .i64 op, .int .i64 (-1), .bool true]) := Lib.hid (by rw [← hW4]; exact BoxN.new W3 _ _)
      clear hW4 O3 B3
      obtain ⟨R, hR⟩ : ∃ R, W3.heap.size = R := ⟨_, rfl⟩
      rw [hR] at R4 ⊢
      clear hR
      have o0 : W4.cell? ⟨B, 0, none⟩ = some (.string v0) := O4.out.cell 0
      have o1 : W4.cell? ⟨B, 1, none⟩ = some (.slice na n1 nc) := O4.out.cell 1
      have o2 : W4.cell? ⟨B, 2, none⟩ = some (.slice ga m gc) := O4.out.cell 2
      have o3 : W4.cell? ⟨B, 3, none⟩ = some (.slice sa ms sc) := O4.out.cell 3
      have o4 : W4.cell? ⟨B, 4, none⟩ = some (.slice ra n4 rc) := O4.out.cell 4
      have o5 : W4.cell? ⟨B, 5, none⟩ = some (.slice ia n5 ic) := O4.out.cell 5
      have o6 : W4.cell? ⟨B, 6, none⟩ = some (.slice fa n6 fc) := O4.out.cell 6
      have r0 : W4.cell? ⟨R, 0, none⟩ = some (.int .u64 ox) := R4.out.cell 0
      have r1 : W4.cell? ⟨R, 1, none⟩ = some (.int .u64 oy) := R4.out.cell 1
      have r2 : W4.cell? ⟨R, 2, none⟩ = some (.int .u64 ox) := R4.out.cell 2
      have r3 : W4.cell? ⟨R, 3, none⟩ = some (.int .i64 op) := R4.out.cell 3
      have r4 : W4.cell? ⟨R, 4, none⟩ = some (.int .i64 (-1)) := R4.out.cell 4
      have r5 : W4.cell? ⟨R, 5, none⟩ = some (.bool true) := R4.out.cell 5
      have HS0 := Lib.hid (And.intro (o0) (And.intro (o1) (And.intro (o2) (And.intro (o3) (And.intro (o4) (And.intro (o5) (And.intro (o6) (And.intro (r0) (And.intro (r1) (And.intro (r2) (And.intro (r3) (And.intro (r4) (r5)))))))))))))
      have HSd := Lib.hid (And.intro (drewc HS0.out.1) (And.intro (drewc HS0.out.2.1) (And.intro (drewc HS0.out.2.2.1) (And.intro (drewc HS0.out.2.2.2.1) (And.intro (drewc HS0.out.2.2.2.2.1) (And.intro (drewc HS0.out.2.2.2.2.2.1) (And.intro (drewc HS0.out.2.2.2.2.2.2.1) (And.intro (drewc HS0.out.2.2.2.2.2.2.2.1) (And.intro (drewc HS0.out.2.2.2.2.2.2.2.2.1) (And.intro (drewc HS0.out.2.2.2.2.2.2.2.2.2.1) (And.intro (drewc HS0.out.2.2.2.2.2.2.2.2.2.2.1) (And.intro (drewc HS0.out.2.2.2.2.2.2.2.2.2.2.2.1) (drewc HS0.out.2.2.2.2.2.2.2.2.2.2.2.2)))))))))))))
      by_cases hi : i < 0 ∨ (m : Int) ≤ i
      · have hcases : (decide (i < 0) = true) ∨ (decide (i < 0) = false ∧ decide ((m : Int) ≤ i) = true) := by
          rcases hi with hi | hi
          · exact Or.inl (decide_eq_true hi)
          · by_cases h0 : i < 0
            · exact Or.inl (decide_eq_true h0)
            · exact Or.inr ⟨decide_eq_false h0, decide_eq_true hi⟩
        rcases hcases with hd | ⟨hd, hd2⟩
        all_goals
          clear hi
          go_upto_region 10 with fail
          clear o0 o1 o2 o3 o4 o5 o6 r0 r1 r2 r3 r4 r5
          go_region_held3 (fun W => W.cell? ⟨B, 0, none⟩ = some (.string v0) ∧ W.cell? ⟨B, 1, none⟩ = some (.slice na n1 nc) ∧ W.cell? ⟨B, 2, none⟩ = some (.slice ga m gc) ∧ W.cell? ⟨B, 3, none⟩ = some (.slice sa ms sc) ∧ W.cell? ⟨B, 4, none⟩ = some (.slice ra n4 rc) ∧ W.cell? ⟨B, 5, none⟩ = some (.slice ia n5 ic) ∧ W.cell? ⟨B, 6, none⟩ = some (.slice fa n6 fc) ∧ W.cell? ⟨R, 0, none⟩ = some (.int .u64 ox) ∧ W.cell? ⟨R, 1, none⟩ = some (.int .u64 oy) ∧ W.cell? ⟨R, 2, none⟩ = some (.int .u64 ox) ∧ W.cell? ⟨R, 3, none⟩ = some (.int .i64 op) ∧ W.cell? ⟨R, 4, none⟩ = some (.int .i64 (-1)) ∧ W.cell? ⟨R, 5, none⟩ = some (.bool true))
            (first | with_reducible exact HSd.out | with_reducible exact HS5.out | go_keep)
            (first
              | (go_at_call 11; refine (C2.out _ (Below.drew (B4.out.mono HBW.out))).mono ?_; rintro e W5 ⟨rfl, hb⟩; have hb2 : Below W4.heap.size W4 W5 := (by first | exact hb | exact undrewT hb); have HS5 := Lib.hid (And.intro (cell_below hb2 HS0.out.1) (And.intro (cell_below hb2 HS0.out.2.1) (And.intro (cell_below hb2 HS0.out.2.2.1) (And.intro (cell_below hb2 HS0.out.2.2.2.1) (And.intro (cell_below hb2 HS0.out.2.2.2.2.1) (And.intro (cell_below hb2 HS0.out.2.2.2.2.2.1) (And.intro (cell_below hb2 HS0.out.2.2.2.2.2.2.1) (And.intro (cell_below hb2 HS0.out.2.2.2.2.2.2.2.1) (And.intro (cell_below hb2 HS0.out.2.2.2.2.2.2.2.2.1) (And.intro (cell_below hb2 HS0.out.2.2.2.2.2.2.2.2.2.1) (And.intro (cell_below hb2 HS0.out.2.2.2.2.2.2.2.2.2.2.1) (And.intro (cell_below hb2 HS0.out.2.2.2.2.2.2.2.2.2.2.2.1) (cell_below hb2 HS0.out.2.2.2.2.2.2.2.2.2.2.2.2))))))))))))); have B5 := Lib.hid (B4.out.trans (hb2.mono (Nat.le_of_lt O4.out.lt))); clear hb hb2))
          go_wp2_with fail
          go_ret
          exact ⟨by simp, B5.out⟩
      have hi0 : ¬ i < 0 := fun h => hi (Or.inl h)
      have hi1 : ¬ (m : Int) ≤ i := fun h => hi (Or.inr h)
      obtain ⟨k, rfl⟩ : ∃ k : Nat, i = k := ⟨i.toNat, by omega⟩
      have hkm : k < m := by omega
      have hd : decide ((k : Int) < 0) = false := decide_eq_false hi0
      have hd2 : decide ((m : Int) ≤ (k : Int)) = false := decide_eq_false hi1
      have hd2n : decide (m ≤ k) = false := decide_eq_false (by omega)
      have hkl : k < o.segs.length := by rw [HM.out]; exact hkm
      have hsk : o.segs[k]? = some o.segs[k] := List.getElem?_eq_getElem hkl
      have hz := HOKS.out.pz _ (List.getElem_mem hkl)
      have hfl := HOKS.out.fl _ (List.getElem_mem hkl)
      obtain ⟨s, hs⟩ : ∃ s, o.segs[k] = s := ⟨_, rfl⟩
      rw [hs] at hsk hz hfl
      have hpi := permF_in s.flags
      obtain ⟨x, hx⟩ : ∃ x, (b : Int) + s.place = x := ⟨_, rfl⟩
      obtain ⟨y, hy⟩ : ∃ y, x + s.size = y := ⟨_, rfl⟩
      obtain ⟨pm, hpm⟩ : ∃ p, permF s.flags = p := ⟨_, rfl⟩
      have hbb := HBB.out
      have C3 := Lib.hid (fun w2 (h : Below w.heap.size w w2) => part_any (.string v0) (.slice na n1 nc) (.slice sa ms sc) (.slice ra n4 rc) (.slice ia n5 ic) (.slice fa n6 fc) ga m gc o.segs (b : Int) k s x y pm w2 HM.out (by rw [← HGA.out]; exact (HR.out.below h).sg) hkm (by rw [← HM.out]; exact HF.out.sgl) hsk (by omega) hz.1 hz.2.1 hx hy (by omega) (by omega) (by omega) hpm (by omega))
      have C4 := Lib.hid (fun w2 (h : Below w.heap.size w w2) => rpart_any (.string v0) (.slice na n1 nc) (.slice sa ms sc) (.slice ra n4 rc) (.slice ia n5 ic) (.slice fa n6 fc) ga m gc o.segs (b : Int) k s x y pm w2 HM.out (by rw [← HGA.out]; exact (HR.out.below h).sg) hkm (by rw [← HM.out]; exact HF.out.sgl) hsk (by omega) hz.1 hz.2.1 hx hy (by omega) (by omega) (by omega) hpm (by omega))
      clear hi hi0 hi1 hkm hkl hsk hz hfl hs hpi hx hy hpm hbb HS0 HSd r0 r1 r2 r3 r4 r5
      go_wp2_with fail
      refine (C3.out _ (B4.out.mono HBW.out)).mono ?_; rintro e W5 ⟨rfl, hb⟩
      have O5 := Lib.hid (boxN_below O4.out hb)
      have R5 := Lib.hid (boxN_below R4.out hb)
      have B5 := Lib.hid (B4.out.trans (hb.mono (Nat.le_of_lt O4.out.lt)))
      clear hb o0 o1 o2 o3 o4 o5 o6 O4 R4 B4 C3 C1
      go_upto_region 12 with fail
      obtain ⟨W6, hW6⟩ : ∃ W, W5.alloc (.cells #[.int .u64 x, .int .u64 y, .int .u64 x, .int .i64 pm, .int .i64 (-1), .bool true] 34) = W := ⟨_, rfl⟩
      rw [hW6]
      have B6 : Hid (Below B w W6) := Lib.hid (by rw [← hW6]; exact B5.out.alloc (by have := O5.out.lt; omega) _)
      have O6 : Hid (BoxN W6 B #[.string v0, .slice na n1 nc, .slice ga m gc, .slice sa ms sc, .slice ra n4 rc, .slice ia n5 ic, .slice fa n6 fc]) := Lib.hid (by rw [← hW6]; exact boxN_below O5.out (bAlloc (Below.refl _ _) _))
      have R6 : Hid (BoxN W6 R #[.int .u64 ox, .int .u64 oy, .int .u64 ox, .int .i64 op, .int .i64 (-1), .bool true]) := Lib.hid (by rw [← hW6]; exact boxN_below R5.out (bAlloc (Below.refl _ _) _))
      have Q6 : Hid (BoxN W6 W5.heap.size #[.int .u64 x, .int .u64 y, .int .u64 x, .int .i64 pm, .int .i64 (-1), .bool true]) := Lib.hid (by rw [← hW6]; exact BoxN.new W5 _ _)
      clear hW6 O5 R5 B5
      obtain ⟨Q, hQ⟩ : ∃ Q, W5.heap.size = Q := ⟨_, rfl⟩
      rw [hQ] at Q6 ⊢
      clear hQ
      have o0 : W6.cell? ⟨B, 0, none⟩ = some (.string v0) := O6.out.cell 0
      have o1 : W6.cell? ⟨B, 1, none⟩ = some (.slice na n1 nc) := O6.out.cell 1
      have o2 : W6.cell? ⟨B, 2, none⟩ = some (.slice ga m gc) := O6.out.cell 2
      have o3 : W6.cell? ⟨B, 3, none⟩ = some (.slice sa ms sc) := O6.out.cell 3
      have o4 : W6.cell? ⟨B, 4, none⟩ = some (.slice ra n4 rc) := O6.out.cell 4
      have o5 : W6.cell? ⟨B, 5, none⟩ = some (.slice ia n5 ic) := O6.out.cell 5
      have o6 : W6.cell? ⟨B, 6, none⟩ = some (.slice fa n6 fc) := O6.out.cell 6
      have r0 : W6.cell? ⟨R, 0, none⟩ = some (.int .u64 ox) := R6.out.cell 0
      have r1 : W6.cell? ⟨R, 1, none⟩ = some (.int .u64 oy) := R6.out.cell 1
      have r2 : W6.cell? ⟨R, 2, none⟩ = some (.int .u64 ox) := R6.out.cell 2
      have r3 : W6.cell? ⟨R, 3, none⟩ = some (.int .i64 op) := R6.out.cell 3
      have r4 : W6.cell? ⟨R, 4, none⟩ = some (.int .i64 (-1)) := R6.out.cell 4
      have r5 : W6.cell? ⟨R, 5, none⟩ = some (.bool true) := R6.out.cell 5
      have s0 : W6.cell? ⟨Q, 0, none⟩ = some (.int .u64 x) := Q6.out.cell 0
      have s1 : W6.cell? ⟨Q, 1, none⟩ = some (.int .u64 y) := Q6.out.cell 1
      have s2 : W6.cell? ⟨Q, 2, none⟩ = some (.int .u64 x) := Q6.out.cell 2
      have s3 : W6.cell? ⟨Q, 3, none⟩ = some (.int .i64 pm) := Q6.out.cell 3
      have s4 : W6.cell? ⟨Q, 4, none⟩ = some (.int .i64 (-1)) := Q6.out.cell 4
      have s5 : W6.cell? ⟨Q, 5, none⟩ = some (.bool true) := Q6.out.cell 5
      have HS0 := Lib.hid (And.intro (o0) (And.intro (o1) (And.intro (o2) (And.intro (o3) (And.intro (o4) (And.intro (o5) (And.intro (o6) (And.intro (r0) (And.intro (r1) (And.intro (r2) (And.intro (r3) (And.intro (r4) (And.intro (r5) (And.intro (s0) (And.intro (s1) (And.intro (s2) (And.intro (s3) (And.intro (s4) (s5)))))))))))))))))))
      have HSd := Lib.hid (And.intro (drewc HS0.out.1) (And.intro (drewc HS0.out.2.1) (And.intro (drewc HS0.out.2.2.1) (And.intro (drewc HS0.out.2.2.2.1) (And.intro (drewc HS0.out.2.2.2.2.1) (And.intro (drewc HS0.out.2.2.2.2.2.1) (And.intro (drewc HS0.out.2.2.2.2.2.2.1) (And.intro (drewc HS0.out.2.2.2.2.2.2.2.1) (And.intro (drewc HS0.out.2.2.2.2.2.2.2.2.1) (And.intro (drewc HS0.out.2.2.2.2.2.2.2.2.2.1) (And.intro (drewc HS0.out.2.2.2.2.2.2.2.2.2.2.1) (And.intro (drewc HS0.out.2.2.2.2.2.2.2.2.2.2.2.1) (And.intro (drewc HS0.out.2.2.2.2.2.2.2.2.2.2.2.2.1) (And.intro (drewc HS0.out.2.2.2.2.2.2.2.2.2.2.2.2.2.1) (And.intro (drewc HS0.out.2.2.2.2.2.2.2.2.2.2.2.2.2.2.1) (And.intro (drewc HS0.out.2.2.2.2.2.2.2.2.2.2.2.2.2.2.2.1) (And.intro (drewc HS0.out.2.2.2.2.2.2.2.2.2.2.2.2.2.2.2.2.1) (And.intro (drewc HS0.out.2.2.2.2.2.2.2.2.2.2.2.2.2.2.2.2.2.1) (drewc HS0.out.2.2.2.2.2.2.2.2.2.2.2.2.2.2.2.2.2.2)))))))))))))))))))
      clear o0 o1 o2 o3 o4 o5 o6 r0 r1 r2 r3 r4 r5 s0 s1 s2 s3 s4 s5
      go_region_held3 (fun W => W.cell? ⟨B, 0, none⟩ = some (.string v0) ∧ W.cell? ⟨B, 1, none⟩ = some (.slice na n1 nc) ∧ W.cell? ⟨B, 2, none⟩ = some (.slice ga m gc) ∧ W.cell? ⟨B, 3, none⟩ = some (.slice sa ms sc) ∧ W.cell? ⟨B, 4, none⟩ = some (.slice ra n4 rc) ∧ W.cell? ⟨B, 5, none⟩ = some (.slice ia n5 ic) ∧ W.cell? ⟨B, 6, none⟩ = some (.slice fa n6 fc) ∧ W.cell? ⟨R, 0, none⟩ = some (.int .u64 ox) ∧ W.cell? ⟨R, 1, none⟩ = some (.int .u64 oy) ∧ W.cell? ⟨R, 2, none⟩ = some (.int .u64 ox) ∧ W.cell? ⟨R, 3, none⟩ = some (.int .i64 op) ∧ W.cell? ⟨R, 4, none⟩ = some (.int .i64 (-1)) ∧ W.cell? ⟨R, 5, none⟩ = some (.bool true) ∧ W.cell? ⟨Q, 0, none⟩ = some (.int .u64 x) ∧ W.cell? ⟨Q, 1, none⟩ = some (.int .u64 y) ∧ W.cell? ⟨Q, 2, none⟩ = some (.int .u64 x) ∧ W.cell? ⟨Q, 3, none⟩ = some (.int .i64 pm) ∧ W.cell? ⟨Q, 4, none⟩ = some (.int .i64 (-1)) ∧ W.cell? ⟨Q, 5, none⟩ = some (.bool true))
        (first | with_reducible exact HSd.out | with_reducible exact HS7.out | with_reducible exact HS8.out | go_keep)
        (first
          | (go_at_call 11; refine (C2.out _ (Below.drew (B6.out.mono HBW.out))).mono ?_; rintro e W7 ⟨rfl, hb⟩; have hb2 : Below W6.heap.size W6 W7 := (by first | exact hb | exact undrewT hb); have HS7 := Lib.hid (And.intro (cell_below hb2 HS0.out.1) (And.intro (cell_below hb2 HS0.out.2.1) (And.intro (cell_below hb2 HS0.out.2.2.1) (And.intro (cell_below hb2 HS0.out.2.2.2.1) (And.intro (cell_below hb2 HS0.out.2.2.2.2.1) (And.intro (cell_below hb2 HS0.out.2.2.2.2.2.1) (And.intro (cell_below hb2 HS0.out.2.2.2.2.2.2.1) (And.intro (cell_below hb2 HS0.out.2.2.2.2.2.2.2.1) (And.intro (cell_below hb2 HS0.out.2.2.2.2.2.2.2.2.1) (And.intro (cell_below hb2 HS0.out.2.2.2.2.2.2.2.2.2.1) (And.intro (cell_below hb2 HS0.out.2.2.2.2.2.2.2.2.2.2.1) (And.intro (cell_below hb2 HS0.out.2.2.2.2.2.2.2.2.2.2.2.1) (And.intro (cell_below hb2 HS0.out.2.2.2.2.2.2.2.2.2.2.2.2.1) (And.intro (cell_below hb2 HS0.out.2.2.2.2.2.2.2.2.2.2.2.2.2.1) (And.intro (cell_below hb2 HS0.out.2.2.2.2.2.2.2.2.2.2.2.2.2.2.1) (And.intro (cell_below hb2 HS0.out.2.2.2.2.2.2.2.2.2.2.2.2.2.2.2.1) (And.intro (cell_below hb2 HS0.out.2.2.2.2.2.2.2.2.2.2.2.2.2.2.2.2.1) (And.intro (cell_below hb2 HS0.out.2.2.2.2.2.2.2.2.2.2.2.2.2.2.2.2.2.1) (cell_below hb2 HS0.out.2.2.2.2.2.2.2.2.2.2.2.2.2.2.2.2.2.2))))))))))))))))))); have B7 := Lib.hid (B6.out.trans (hb2.mono (Nat.le_of_lt O6.out.lt))); have L7 := Lib.hid (Nat.lt_of_lt_of_le O6.out.lt hb2.size); clear hb hb2)
          | (go_at_call 13; refine (C4.out _ (B7.out.mono HBW.out)).mono ?_; rintro e W8 ⟨rfl, hb⟩; have HS8 := Lib.hid (And.intro (cell_below hb HS7.out.1) (And.intro (cell_below hb HS7.out.2.1) (And.intro (cell_below hb HS7.out.2.2.1) (And.intro (cell_below hb HS7.out.2.2.2.1) (And.intro (cell_below hb HS7.out.2.2.2.2.1) (And.intro (cell_below hb HS7.out.2.2.2.2.2.1) (And.intro (cell_below hb HS7.out.2.2.2.2.2.2.1) (And.intro (cell_below hb HS7.out.2.2.2.2.2.2.2.1) (And.intro (cell_below hb HS7.out.2.2.2.2.2.2.2.2.1) (And.intro (cell_below hb HS7.out.2.2.2.2.2.2.2.2.2.1) (And.intro (cell_below hb HS7.out.2.2.2.2.2.2.2.2.2.2.1) (And.intro (cell_below hb HS7.out.2.2.2.2.2.2.2.2.2.2.2.1) (And.intro (cell_below hb HS7.out.2.2.2.2.2.2.2.2.2.2.2.2.1) (And.intro (cell_below hb HS7.out.2.2.2.2.2.2.2.2.2.2.2.2.2.1) (And.intro (cell_below hb HS7.out.2.2.2.2.2.2.2.2.2.2.2.2.2.2.1) (And.intro (cell_below hb HS7.out.2.2.2.2.2.2.2.2.2.2.2.2.2.2.2.1) (And.intro (cell_below hb HS7.out.2.2.2.2.2.2.2.2.2.2.2.2.2.2.2.2.1) (And.intro (cell_below hb HS7.out.2.2.2.2.2.2.2.2.2.2.2.2.2.2.2.2.2.1) (cell_below hb HS7.out.2.2.2.2.2.2.2.2.2.2.2.2.2.2.2.2.2.2))))))))))))))))))); have B8 := Lib.hid (B7.out.trans (hb.mono (Nat.le_of_lt L7.out))); clear hb))
      go_wp2_with fail
      go_ret
      exact ⟨by simp, B8.out⟩
theorem ImageParts_walk (o : Ob) (w : World) (hr : RdOb w o) (hf : FitOb o) (hnc : o.needs.length ≤ o.nc) (base : Int) (hb0 : 0 ≤ base) (i flags : Int) :
    Calls Try.prog 3 #[objV o, .int .u64 base, .int .i64 i, .int .i64 flags] w fun e w' => e = .returned (.bool true) ∧ Below w.heap.size w w' := by
  obtain ⟨b, rfl⟩ : ∃ b : Nat, base = b := ⟨base.toNat, by omega⟩
  exact parts_walk w w.heap.size rfl ⟨o.name.toArray⟩ o.na o.ga o.sa o.ra o.ia o.fa o.needs.length o.nc o.segs.length o.gc o.syms.length o.sc o.rels.length o.rc o.init.length o.ic o.fini.length o.fc o rfl rfl rfl hr hf b i flags
end Go.Proofs.Yteaididdamihlaa.Ce
