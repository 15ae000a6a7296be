/- Data and Entry of a symbol are the document's: contract of TableCaps. -/
import Derived.Test.YtidnojjhchmmgaaTaT
import Derived.Test.YtidnojjhchmmgaaTaR
import Derived.Test.YtidnojjhchmmgaaCeV
namespace Go.Proofs.Ytidnojjhchmmgaa
set_option linter.unusedVariables false
set_option linter.unusedSimpArgs false
open Go.Joins Go.ChangeShapes Go.WideShapes Go.ChangeAt Go.RowKit Go.Deep

theorem wf_u64' {x : Int} (h : (Lit.int .u64 x).wf = true) : 0 ≤ x ∧ x < 18446744073709551616 := wf_u64b h
theorem caps_facts {o : Ob} {b : Nat} {t : Int} {k2 : Nat} (hf : FitOb o) (hq : rightQ o b t = true) (hk : k2 < o.syms.length) (hd : o.syms[k2].defd = true) :
    ∃ k g, SymIn o.segs o.syms[k2].place o.syms[k2].size k g ∧ SegsOk o.segs ∧ b < 16711680 ∧ 0 ≤ t ∧ t < 64 := by
  unfold rightQ at hq
  simp only [Bool.and_eq_true, decide_eq_true_eq] at hq
  obtain ⟨h0, -, hb, ht0, ht1⟩ := hq
  obtain ⟨-, -, h3, h4, -⟩ := (check0 o).1 h0
  have hok := segs_ok h3
  have hsy := List.all_eq_true.1 h4 _ (List.getElem_mem hk)
  have hu := hf.sy _ (List.getElem_mem hk)
  obtain ⟨k, g, hi⟩ := atF_ok hok hu.1 hu.2.1 (syms_at hsy hd)
  exact ⟨k, g, hi, hok, hb, ht0, by omega⟩
set_option maxHeartbeats 4000000 in
set_option maxRecDepth 100000 in
theorem caps_walk (w : World) (B : Nat) (hB0 : w.heap.size = B) (v0 : ByteArray) (na ga sa ra ia fa : Option Addr) (n1 nc m gc ms sc n4 rc n5 ic n6 fc : Nat) (o : Ob) (hoe : objV o = .agg #[.string v0, .slice na n1 nc, .slice ga m gc, .slice sa ms sc, .slice ra n4 rc, .slice ia n5 ic, .slice fa n6 fc]) (hm : o.segs.length = m) (hms : o.syms.length = ms) (hga : o.ga = ga) (hsa : o.sa = sa) (hr : RdOb w o) (hf : FitOb o) (b : Nat) (sym typ : Int) :
    Calls Try.prog 3 #[.agg #[.string v0, .slice na n1 nc, .slice ga m gc, .slice sa ms sc, .slice ra n4 rc, .slice ia n5 ic, .slice fa n6 fc], .int .u64 (b : Int), .int .i64 sym, .int .i64 typ] w fun e w' => e = .returned (.bool true) ∧ Below B w w' := by
  have HR := Lib.hid hr
  have HF := Lib.hid hf
  have HOE : Hid ((objC o).toArray = #[.string v0, .slice na n1 nc, .slice ga m gc, .slice sa ms sc, .slice ra n4 rc, .slice ia n5 ic, .slice fa n6 fc]) := Lib.hid (by unfold objV at hoe; exact Value.agg.inj hoe)
  have HM := Lib.hid hm
  have HMS := Lib.hid hms
  have HGA := Lib.hid hga
  have HSA := Lib.hid hsa
  clear hr hf hoe hm hms hga hsa
  have B0 : Hid (Below B w (w.alloc (.cells #[.string v0, .slice na n1 nc, .slice ga m gc, .slice sa ms sc, .slice ra n4 rc, .slice ia n5 ic, .slice fa n6 fc] 28))) := Lib.hid (by rw [← hB0]; exact bAlloc (Below.refl _ _) _)
  have O0 : Hid (BoxN (w.alloc (.cells #[.string v0, .slice na n1 nc, .slice ga m gc, .slice sa ms sc, .slice ra n4 rc, .slice ia n5 ic, .slice fa n6 fc] 28)) B #[.string v0, .slice na n1 nc, .slice ga m gc, .slice sa ms sc, .slice ra n4 rc, .slice ia n5 ic, .slice fa n6 fc]) := Lib.hid (by rw [← hB0]; exact BoxN.new w _ _)
  go_enter Try.func3, Try.ntmps3
  go_upto_region 1 with fail
  obtain ⟨W0, hW0⟩ : ∃ W, w.alloc (.cells #[.string v0, .slice na n1 nc, .slice ga m gc, .slice sa ms sc, .slice ra n4 rc, .slice ia n5 ic, .slice fa n6 fc] 28) = W := ⟨_, rfl⟩
  rw [hW0] at B0 O0 ⊢
  have HB0 := Lib.hid hB0
  (try rw [hB0])
  clear hW0 hB0
  go_wp2_with fail
  refine (awake_any _).mono ?_; rintro e W1 ⟨rfl, hb⟩
  have O1 := Lib.hid (boxN_below O0.out hb)
  have B1 := Lib.hid (B0.out.trans (hb.mono (Nat.le_of_lt O0.out.lt)))
  clear hb B0 O0
  have o0 : W1.cell? ⟨B, 0, none⟩ = some (.string v0) := O1.out.cell 0
  have o1 : W1.cell? ⟨B, 1, none⟩ = some (.slice na n1 nc) := O1.out.cell 1
  have o2 : W1.cell? ⟨B, 2, none⟩ = some (.slice ga m gc) := O1.out.cell 2
  have o3 : W1.cell? ⟨B, 3, none⟩ = some (.slice sa ms sc) := O1.out.cell 3
  have o4 : W1.cell? ⟨B, 4, none⟩ = some (.slice ra n4 rc) := O1.out.cell 4
  have o5 : W1.cell? ⟨B, 5, none⟩ = some (.slice ia n5 ic) := O1.out.cell 5
  have o6 : W1.cell? ⟨B, 6, none⟩ = some (.slice fa n6 fc) := O1.out.cell 6
  go_wp2_with fail
  obtain ⟨q1, hq1⟩ : ∃ q, rightQ o b typ = q := ⟨_, rfl⟩
  have HQ := Lib.hid hq1
  have C := Lib.hid (right1_any o b typ W1.heap.size (W1.heap.size + 1) (W1.heap.size + 1 + 1) (((W1.alloc (.cells #[.string v0, .slice na n1 nc, .slice ga m gc, .slice sa ms sc, .slice ra n4 rc, .slice ia n5 ic, .slice fa n6 fc] 28)).alloc (.cells #[.int .u64 (b : Int)] 29)).alloc (.cells #[.int .i64 typ] 3)) (HR.out.below (((B1.out.mono (Nat.le_of_eq HB0.out)).alloc (by rw [HB0.out]; exact Nat.le_of_lt O1.out.lt) _ |>.alloc (by rw [HB0.out, size_alloc]; exact Nat.le_succ_of_le (Nat.le_of_lt O1.out.lt)) _).alloc (by rw [HB0.out, size_alloc, size_alloc]; exact Nat.le_succ_of_le (Nat.le_succ_of_le (Nat.le_of_lt O1.out.lt))) _)) HF.out
    (by rw [HOE.out]; exact boxN_below (boxN_below (BoxN.new W1 _ _) (bAlloc (Below.refl _ _) _)) (bAlloc (Below.refl _ _) _))
    (by have h := BoxN.new (W1.alloc (.cells #[.string v0, .slice na n1 nc, .slice ga m gc, .slice sa ms sc, .slice ra n4 rc, .slice ia n5 ic, .slice fa n6 fc] 28)) #[.int .u64 (b : Int)] 29
        rw [size_alloc] at h
        exact boxN_below h (bAlloc (Below.refl _ _) _))
    (by have h := BoxN.new ((W1.alloc (.cells #[.string v0, .slice na n1 nc, .slice ga m gc, .slice sa ms sc, .slice ra n4 rc, .slice ia n5 ic, .slice fa n6 fc] 28)).alloc (.cells #[.int .u64 (b : Int)] 29)) #[.int .i64 typ] 3
        rw [size_alloc, size_alloc] at h
        exact h))
  rw [hq1] at C
  clear hq1
  refine C.out.mono ?_; rintro e W2 ⟨rfl, hb⟩
  have hb2 : Below W1.heap.size W1 W2 := bTrans (w := W1) (bAlloc (bAlloc (bAlloc (Below.refl _ _) _) _) _) hb
  have O2 := Lib.hid (boxN_below O1.out hb2)
  have B2 := Lib.hid (B1.out.trans (hb2.mono (Nat.le_of_lt O1.out.lt)))
  clear hb hb2 C O1 B1 o0 o1 o2 o3 o4 o5 o6
  have o0 : W2.cell? ⟨B, 0, none⟩ = some (.string v0) := O2.out.cell 0
  have o1 : W2.cell? ⟨B, 1, none⟩ = some (.slice na n1 nc) := O2.out.cell 1
  have o2 : W2.cell? ⟨B, 2, none⟩ = some (.slice ga m gc) := O2.out.cell 2
  have o3 : W2.cell? ⟨B, 3, none⟩ = some (.slice sa ms sc) := O2.out.cell 3
  have o4 : W2.cell? ⟨B, 4, none⟩ = some (.slice ra n4 rc) := O2.out.cell 4
  have o5 : W2.cell? ⟨B, 5, none⟩ = some (.slice ia n5 ic) := O2.out.cell 5
  have o6 : W2.cell? ⟨B, 6, none⟩ = some (.slice fa n6 fc) := O2.out.cell 6
  cases q1 with
  | false =>
    go_wp2_with fail
    go_ret
    exact ⟨rfl, B2.out⟩
  | true =>
    by_cases g0 : sym < 0
    · go_wp2_with fail
      go_ret
      exact ⟨rfl, B2.out⟩
    obtain ⟨k2, rfl⟩ : ∃ k : Nat, sym = k := ⟨sym.toNat, by omega⟩
    have hg0 : decide ((k2 : Int) < 0) = false := decide_eq_false (by omega)
    by_cases g1 : ms ≤ k2
    · have g1i : (ms : Int) ≤ (k2 : Int) := by omega
      have hg1 : decide ((ms : Int) ≤ (k2 : Int)) = true := decide_eq_true g1i
      clear g0
      go_wp2_with fail
      go_ret
      exact ⟨rfl, B2.out⟩
    have hg1 : decide ((ms : Int) ≤ (k2 : Int)) = false := decide_eq_false (by omega)
    have hk2 : k2 < o.syms.length := by rw [HMS.out]; omega
    have kk0 : (0 : Int) ≤ (k2 : Int) := by omega
    have kk1 : (k2 : Int) < (ms : Int) := by omega
    have HFA := Lib.hid (fun h => caps_facts HF.out HQ.out hk2 h)
    obtain ⟨gs, os, hge, hgl, -, -, s2, s3, s4, -, -, s7⟩ := (HR.out.below (B2.out.mono (Nat.le_of_eq HB0.out))).sy.at_ hk2
    have hsl : o.syms[k2]? = some o.syms[k2] := List.getElem?_eq_getElem hk2
    obtain ⟨s, hs⟩ : ∃ s, o.syms[k2] = s := ⟨_, rfl⟩
    rw [hs] at s2 s3 s4 s7 hsl HFA
    rw [HSA.out] at hge
    have HSL := Lib.hid hsl
    obtain ⟨df, hdf⟩ : ∃ d, s.defd = d := ⟨_, rfl⟩
    obtain ⟨kd, hkd⟩ : ∃ d, s.kind = d := ⟨_, rfl⟩
    rw [hdf] at s7 HFA
    rw [hkd] at s4
    have HGE := Lib.hid hge
    subst hge
    have S7 := Lib.hid (And.intro s7 s4)
    have HGL := Lib.hid hgl
    clear hsl hs hdf hkd hgl g0 g1 hk2 s2 s3 s4
    cases df with
    | false =>
      go_wp2_with fail
      go_ret
      exact ⟨rfl, B2.out⟩
    | true =>
      obtain ⟨k, g, hi, hok, hbb, ht0, ht1⟩ := HFA.out rfl
      obtain ⟨x, hx⟩ : ∃ x, (b : Int) + g.place = x := ⟨_, rfl⟩
      obtain ⟨y, hy⟩ : ∃ y, x + g.size = y := ⟨_, rfl⟩
      obtain ⟨pm, hpm⟩ : ∃ p, permF g.flags = p := ⟨_, rfl⟩
      obtain ⟨q, hq⟩ : ∃ q, (b : Int) + s.place = q := ⟨_, rfl⟩
      obtain ⟨z, hz⟩ : ∃ z, q + s.size = z := ⟨_, rfl⟩
      obtain ⟨pc, hpc⟩ : ∃ p, pm + 128 = p := ⟨_, rfl⟩
      obtain ⟨⟨ox, oy, op⟩, how⟩ : ∃ p, ownF o.segs (b : Int) = p := ⟨_, rfl⟩
      have CD := Lib.hid (fun w2 (h : Below w.heap.size w w2) => data_any (.string v0) (.slice na n1 nc) (.slice ra n4 rc) (.slice ia n5 ic) (.slice fa n6 fc) ga (some ⟨gs, os, none⟩) m gc ms sc o.segs o.syms (b : Int) k2 s k g w2 HM.out (by rw [← HGA.out]; exact (HR.out.below h).sg) (by rw [← HM.out]; exact HF.out.sgl) hok (by omega) (by omega) HMS.out (by rw [← HGE.out]; have h2 := (HR.out.below h).sy; rw [HSA.out] at h2; exact h2) HSL.out hi x y pm q z hx hy hpm hq hz)
      have CRD := Lib.hid (fun w2 (h : Below w.heap.size w w2) => rdata_any (.string v0) (.slice na n1 nc) (.slice ra n4 rc) (.slice ia n5 ic) (.slice fa n6 fc) ga (some ⟨gs, os, none⟩) m gc ms sc o.segs o.syms (b : Int) k2 s k g w2 HM.out (by rw [← HGA.out]; exact (HR.out.below h).sg) (by rw [← HM.out]; exact HF.out.sgl) hok (by omega) (by omega) HMS.out (by rw [← HGE.out]; have h2 := (HR.out.below h).sy; rw [HSA.out] at h2; exact h2) HSL.out hi x y pm q z hx hy hpm hq hz)
      have CE := Lib.hid (fun w2 (h : Below w.heap.size w w2) => entry_any (.string v0) (.slice na n1 nc) (.slice ra n4 rc) (.slice ia n5 ic) (.slice fa n6 fc) ga (some ⟨gs, os, none⟩) m gc ms sc o.segs o.syms (b : Int) k2 s k g w2 HM.out (by rw [← HGA.out]; exact (HR.out.below h).sg) (by rw [← HM.out]; exact HF.out.sgl) hok (by omega) (by omega) HMS.out (by rw [← HGE.out]; have h2 := (HR.out.below h).sy; rw [HSA.out] at h2; exact h2) HSL.out hi x y pm q pc typ ox oy op hx hy hpm hq hpc ht0 ht1 how)
      have CRE := Lib.hid (fun w2 (h : Below w.heap.size w w2) => rentry_any (.string v0) (.slice na n1 nc) (.slice ra n4 rc) (.slice ia n5 ic) (.slice fa n6 fc) ga (some ⟨gs, os, none⟩) m gc ms sc o.segs o.syms (b : Int) k2 s k g w2 HM.out (by rw [← HGA.out]; exact (HR.out.below h).sg) (by rw [← HM.out]; exact HF.out.sgl) hok (by omega) (by omega) HMS.out (by rw [← HGE.out]; have h2 := (HR.out.below h).sy; rw [HSA.out] at h2; exact h2) HSL.out hi x y pm q pc typ ox oy op hx hy hpm hq hpc ht0 ht1 how)
      have HBW : Hid (w.heap.size ≤ B) := Lib.hid (Nat.le_of_eq HB0.out)
      have HWB : ∀ w2, Below B w w2 → Below w.heap.size w w2 := fun w2 h => h.mono HBW.out
      clear hi hok hbb ht0 ht1 hx hy hpm hq hz hpc how HFA
      go_wp2_with fail
      refine (CD.out _ (HWB _ B2.out)).mono ?_; rintro e W3 ⟨rfl, hb⟩
      have O3 := Lib.hid (boxN_below O2.out hb)
      have B3 := Lib.hid (B2.out.trans (hb.mono (Nat.le_of_lt O2.out.lt)))
      have s7' := cell_below hb S7.out.1
      have S3 := Lib.hid (And.intro s7' (cell_below hb S7.out.2))
      clear hb o0 o1 o2 o3 o4 o5 o6 O2 B2 s7 s7' S7 CD
      go_upto_region 6 with fail
      obtain ⟨W4, hW4⟩ : ∃ W, W3.alloc (.cells #[.int .u64 q, .int .u64 z, .int .u64 q, .int .i64 pm, .int .i64 (-1), .bool true] 37) = W := ⟨_, rfl⟩
      rw [hW4]
      have B4 : Hid (Below B w W4) := Lib.hid (by rw [← hW4]; exact B3.out.alloc (by have := O3.out.lt; omega) _)
      have O4 : Hid (BoxN W4 B #[.string v0, .slice na n1 nc, .slice ga m gc, .slice (some ⟨gs, os, none⟩) ms sc, .slice ra n4 rc, .slice ia n5 ic, .slice fa n6 fc]) := Lib.hid (by rw [← hW4]; exact boxN_below O3.out (bAlloc (Below.refl _ _) _))
      have R4 : Hid (BoxN W4 W3.heap.size #[.int .u64 q, .int .u64 z, .int .u64 q, .int .i64 pm, .int .i64 (-1), .bool true]) := Lib.hid (by rw [← hW4]; exact BoxN.new W3 _ _)
      have S4 : Hid (W4.cell? ⟨gs, os + k2 * 8 + 7, none⟩ = some (.bool true) ∧ W4.cell? ⟨gs, os + k2 * 8 + 4, none⟩ = some (.int .i64 kd)) := Lib.hid (by rw [← hW4]; exact ⟨cell_below (bAlloc (Below.refl _ _) _) S3.out.1, cell_below (bAlloc (Below.refl _ _) _) S3.out.2⟩)
      clear hW4 O3 B3 S3
      obtain ⟨R, hR⟩ : ∃ R, W3.heap.size = R := ⟨_, rfl⟩
      rw [hR] at R4 ⊢
      clear hR
      have o0 : W4.cell? ⟨B, 0, none⟩ = some (.string v0) := O4.out.cell 0
      have o1 : W4.cell? ⟨B, 1, none⟩ = some (.slice na n1 nc) := O4.out.cell 1
      have o2 : W4.cell? ⟨B, 2, none⟩ = some (.slice ga m gc) := O4.out.cell 2
      have o3 : W4.cell? ⟨B, 3, none⟩ = some (.slice (some ⟨gs, os, none⟩) ms sc) := O4.out.cell 3
      have o4 : W4.cell? ⟨B, 4, none⟩ = some (.slice ra n4 rc) := O4.out.cell 4
      have o5 : W4.cell? ⟨B, 5, none⟩ = some (.slice ia n5 ic) := O4.out.cell 5
      have o6 : W4.cell? ⟨B, 6, none⟩ = some (.slice fa n6 fc) := O4.out.cell 6
      have r0 : W4.cell? ⟨R, 0, none⟩ = some (.int .u64 q) := R4.out.cell 0
      have r1 : W4.cell? ⟨R, 1, none⟩ = some (.int .u64 z) := R4.out.cell 1
      have r2 : W4.cell? ⟨R, 2, none⟩ = some (.int .u64 q) := R4.out.cell 2
      have r3 : W4.cell? ⟨R, 3, none⟩ = some (.int .i64 pm) := R4.out.cell 3
      have r4 : W4.cell? ⟨R, 4, none⟩ = some (.int .i64 (-1)) := R4.out.cell 4
      have r5 : W4.cell? ⟨R, 5, none⟩ = some (.bool true) := R4.out.cell 5
      have HS0 := Lib.hid (And.intro (o0) (And.intro (o1) (And.intro (o2) (And.intro (o3) (And.intro (o4) (And.intro (o5) (And.intro (o6) (And.intro (r0) (And.intro (r1) (And.intro (r2) (And.intro (r3) (And.intro (r4) (r5)))))))))))))
      have HSd := Lib.hid (And.intro (drewc HS0.out.1) (And.intro (drewc HS0.out.2.1) (And.intro (drewc HS0.out.2.2.1) (And.intro (drewc HS0.out.2.2.2.1) (And.intro (drewc HS0.out.2.2.2.2.1) (And.intro (drewc HS0.out.2.2.2.2.2.1) (And.intro (drewc HS0.out.2.2.2.2.2.2.1) (And.intro (drewc HS0.out.2.2.2.2.2.2.2.1) (And.intro (drewc HS0.out.2.2.2.2.2.2.2.2.1) (And.intro (drewc HS0.out.2.2.2.2.2.2.2.2.2.1) (And.intro (drewc HS0.out.2.2.2.2.2.2.2.2.2.2.1) (And.intro (drewc HS0.out.2.2.2.2.2.2.2.2.2.2.2.1) (drewc HS0.out.2.2.2.2.2.2.2.2.2.2.2.2)))))))))))))
      clear o0 o1 o2 o3 o4 o5 o6 r0 r1 r2 r3 r4 r5
      go_region_held3 (fun W => W.cell? ⟨B, 0, none⟩ = some (.string v0) ∧ W.cell? ⟨B, 1, none⟩ = some (.slice na n1 nc) ∧ W.cell? ⟨B, 2, none⟩ = some (.slice ga m gc) ∧ W.cell? ⟨B, 3, none⟩ = some (.slice (some ⟨gs, os, none⟩) ms sc) ∧ W.cell? ⟨B, 4, none⟩ = some (.slice ra n4 rc) ∧ W.cell? ⟨B, 5, none⟩ = some (.slice ia n5 ic) ∧ W.cell? ⟨B, 6, none⟩ = some (.slice fa n6 fc) ∧ W.cell? ⟨R, 0, none⟩ = some (.int .u64 q) ∧ W.cell? ⟨R, 1, none⟩ = some (.int .u64 z) ∧ W.cell? ⟨R, 2, none⟩ = some (.int .u64 q) ∧ W.cell? ⟨R, 3, none⟩ = some (.int .i64 pm) ∧ W.cell? ⟨R, 4, none⟩ = some (.int .i64 (-1)) ∧ W.cell? ⟨R, 5, none⟩ = some (.bool true))
        (first | with_reducible exact HSd.out | with_reducible exact HS5.out | go_keep)
        (first
          | (go_at_call 8; refine (CRD.out _ (HWB _ (Below.drew B4.out))).mono ?_; rintro e W5 ⟨rfl, hb⟩; have hb2 : Below W4.heap.size W4 W5 := (by first | exact hb | exact undrewT hb); have HS5 := Lib.hid (And.intro (cell_below hb2 HS0.out.1) (And.intro (cell_below hb2 HS0.out.2.1) (And.intro (cell_below hb2 HS0.out.2.2.1) (And.intro (cell_below hb2 HS0.out.2.2.2.1) (And.intro (cell_below hb2 HS0.out.2.2.2.2.1) (And.intro (cell_below hb2 HS0.out.2.2.2.2.2.1) (And.intro (cell_below hb2 HS0.out.2.2.2.2.2.2.1) (And.intro (cell_below hb2 HS0.out.2.2.2.2.2.2.2.1) (And.intro (cell_below hb2 HS0.out.2.2.2.2.2.2.2.2.1) (And.intro (cell_below hb2 HS0.out.2.2.2.2.2.2.2.2.2.1) (And.intro (cell_below hb2 HS0.out.2.2.2.2.2.2.2.2.2.2.1) (And.intro (cell_below hb2 HS0.out.2.2.2.2.2.2.2.2.2.2.2.1) (cell_below hb2 HS0.out.2.2.2.2.2.2.2.2.2.2.2.2))))))))))))); have O5 := Lib.hid (boxN_below O4.out hb2); have B5 := Lib.hid (B4.out.trans (hb2.mono (Nat.le_of_lt O4.out.lt))); have S5 := Lib.hid (And.intro (cell_below hb2 S4.out.1) (cell_below hb2 S4.out.2)); clear hb hb2))
      clear HS5 HSd HS0 O4 B4 S4 R4 CRD
      have o0 : W5.cell? ⟨B, 0, none⟩ = some (.string v0) := O5.out.cell 0
      have o1 : W5.cell? ⟨B, 1, none⟩ = some (.slice na n1 nc) := O5.out.cell 1
      have o2 : W5.cell? ⟨B, 2, none⟩ = some (.slice ga m gc) := O5.out.cell 2
      have o3 : W5.cell? ⟨B, 3, none⟩ = some (.slice (some ⟨gs, os, none⟩) ms sc) := O5.out.cell 3
      have o4 : W5.cell? ⟨B, 4, none⟩ = some (.slice ra n4 rc) := O5.out.cell 4
      have o5 : W5.cell? ⟨B, 5, none⟩ = some (.slice ia n5 ic) := O5.out.cell 5
      have o6 : W5.cell? ⟨B, 6, none⟩ = some (.slice fa n6 fc) := O5.out.cell 6
      have s4 : W5.cell? ⟨gs, os + k2 * 8 + 4, none⟩ = some (.int .i64 kd) := S5.out.2
      by_cases hkd : ¬ kd = 1
      · have hcd : (kd != 1) = true := bne_iff_ne.2 hkd
        go_wp2_with fail
        go_ret
        exact ⟨rfl, B5.out⟩
      obtain rfl : kd = 1 := Decidable.not_not.1 hkd
      clear hkd
      go_wp2_with fail
      refine (CE.out _ (HWB _ B5.out)).mono ?_; rintro e W6 ⟨rfl, hb⟩
      have O6 := Lib.hid (boxN_below O5.out hb)
      have B6 := Lib.hid (B5.out.trans (hb.mono (Nat.le_of_lt O5.out.lt)))
      clear hb o0 o1 o2 o3 o4 o5 o6 s4 S5 O5 B5 CE
      go_upto_region 11 with fail
      obtain ⟨W7, hW7⟩ : ∃ W, (W6.alloc (.cells #[.int .u64 x, .int .u64 y, .int .u64 q, .int .i64 pc, .int .i64 typ, .bool true] 37)).alloc (.cells #[.int .u64 ox, .int .u64 oy, .int .u64 ox, .int .i64 op, .int .i64 typ, .bool true] 37) = W := ⟨_, rfl⟩
      rw [hW7]
      have B7 : Hid (Below B w W7) := Lib.hid (by rw [← hW7]; exact (B6.out.alloc (by have := O6.out.lt; omega) _).alloc (by rw [size_alloc]; have := O6.out.lt; omega) _)
      have O7 : Hid (BoxN W7 B #[.string v0, .slice na n1 nc, .slice ga m gc, .slice (some ⟨gs, os, none⟩) ms sc, .slice ra n4 rc, .slice ia n5 ic, .slice fa n6 fc]) := Lib.hid (by rw [← hW7]; exact boxN_below O6.out (bAlloc (bAlloc (Below.refl _ _) _) _))
      have X7 : Hid (BoxN W7 W6.heap.size #[.int .u64 x, .int .u64 y, .int .u64 q, .int .i64 pc, .int .i64 typ, .bool true]) := Lib.hid (by rw [← hW7]; exact boxN_below (BoxN.new W6 _ _) (bAlloc (Below.refl _ _) _))
      have Y7 : Hid (BoxN W7 (W6.heap.size + 1) #[.int .u64 ox, .int .u64 oy, .int .u64 ox, .int .i64 op, .int .i64 typ, .bool true]) := Lib.hid (by
        rw [← hW7]
        have h := BoxN.new (W6.alloc (.cells #[.int .u64 x, .int .u64 y, .int .u64 q, .int .i64 pc, .int .i64 typ, .bool true] 37)) #[.int .u64 ox, .int .u64 oy, .int .u64 ox, .int .i64 op, .int .i64 typ, .bool true] 37
        rw [size_alloc] at h
        exact h)
      clear hW7 O6 B6
      obtain ⟨P, hP⟩ : ∃ P, W6.heap.size = P := ⟨_, rfl⟩
      rw [hP] at X7 Y7 ⊢
      clear hP
      have o0 : W7.cell? ⟨B, 0, none⟩ = some (.string v0) := O7.out.cell 0
      have o1 : W7.cell? ⟨B, 1, none⟩ = some (.slice na n1 nc) := O7.out.cell 1
      have o2 : W7.cell? ⟨B, 2, none⟩ = some (.slice ga m gc) := O7.out.cell 2
      have o3 : W7.cell? ⟨B, 3, none⟩ = some (.slice (some ⟨gs, os, none⟩) ms sc) := O7.out.cell 3
      have o4 : W7.cell? ⟨B, 4, none⟩ = some (.slice ra n4 rc) := O7.out.cell 4
      have o5 : W7.cell? ⟨B, 5, none⟩ = some (.slice ia n5 ic) := O7.out.cell 5
      have o6 : W7.cell? ⟨B, 6, none⟩ = some (.slice fa n6 fc) := O7.out.cell 6
      go_wp2_with fail
      refine (CRE.out _ (HWB _ B7.out)).mono ?_; rintro e W8 ⟨rfl, hb⟩
      have B8 := Lib.hid (B7.out.trans (hb.mono (Nat.le_of_lt O7.out.lt)))
      have X8 := Lib.hid (boxN_below X7.out hb)
      have Y8 := Lib.hid (boxN_below Y7.out hb)
      have hl8 := O7.out.lt
      have hs8 := hb.size
      clear hb o0 o1 o2 o3 o4 o5 o6 O7 B7 X7 Y7 CRE
      go_upto_region 12 with fail
      obtain ⟨W9, hW9⟩ : ∃ W, (W8.alloc (.cells #[.int .u64 x, .int .u64 y, .int .u64 q, .int .i64 pc, .int .i64 typ, .bool true] 37)).alloc (.cells #[.int .u64 ox, .int .u64 oy, .int .u64 ox, .int .i64 op, .int .i64 typ, .bool true] 37) = W := ⟨_, rfl⟩
      rw [hW9]
      have B9 : Hid (Below B w W9) := Lib.hid (by rw [← hW9]; exact (B8.out.alloc (by omega) _).alloc (by rw [size_alloc]; omega) _)
      have X9 : BoxN W9 P #[.int .u64 x, .int .u64 y, .int .u64 q, .int .i64 pc, .int .i64 typ, .bool true] := by rw [← hW9]; exact boxN_below X8.out (bAlloc (bAlloc (Below.refl _ _) _) _)
      have Y9 : BoxN W9 (P + 1) #[.int .u64 ox, .int .u64 oy, .int .u64 ox, .int .i64 op, .int .i64 typ, .bool true] := by rw [← hW9]; exact boxN_below Y8.out (bAlloc (bAlloc (Below.refl _ _) _) _)
      have Z9 : BoxN W9 W8.heap.size #[.int .u64 x, .int .u64 y, .int .u64 q, .int .i64 pc, .int .i64 typ, .bool true] := by rw [← hW9]; exact boxN_below (BoxN.new W8 _ _) (bAlloc (Below.refl _ _) _)
      have V9 : BoxN W9 (W8.heap.size + 1) #[.int .u64 ox, .int .u64 oy, .int .u64 ox, .int .i64 op, .int .i64 typ, .bool true] := by
        rw [← hW9]
        have h := BoxN.new (W8.alloc (.cells #[.int .u64 x, .int .u64 y, .int .u64 q, .int .i64 pc, .int .i64 typ, .bool true] 37)) #[.int .u64 ox, .int .u64 oy, .int .u64 ox, .int .i64 op, .int .i64 typ, .bool true] 37
        rw [size_alloc] at h
        exact h
      clear hW9 hl8 hs8
      obtain ⟨G, hG⟩ : ∃ G, W8.heap.size = G := ⟨_, rfl⟩
      rw [hG] at Z9 V9 ⊢
      clear hG
      obtain ⟨⟨c0, c1, c2, c3, c4, c5⟩, -⟩ := boxN6 X9
      obtain ⟨⟨d0, d1, d2, d3, d4, d5⟩, -⟩ := boxN6 Y9
      obtain ⟨⟨e0, e1, e2, e3, e4, e5⟩, -⟩ := boxN6 Z9
      obtain ⟨⟨f0, f1, f2, f3, f4, f5⟩, -⟩ := boxN6 V9
      clear X9 Y9 Z9 V9 X8 Y8 B8
      go_wp2_with fail
      go_ret
      exact ⟨by simp, B9.out⟩
theorem TableCaps_walk (o : Ob) (w : World) (hr : RdOb w o) (hf : FitOb o) (hnc : o.needs.length ≤ o.nc) (base : Int) (hb0 : 0 ≤ base) (sym typ : Int) :
    Calls Try.prog 3 #[objV o, .int .u64 base, .int .i64 sym, .int .i64 typ] w fun e w' => e = .returned (.bool true) ∧ Below w.heap.size w w' := by
  obtain ⟨b, rfl⟩ : ∃ b : Nat, base = b := ⟨base.toNat, by omega⟩
  exact caps_walk w w.heap.size rfl ⟨o.name.toArray⟩ o.na o.ga o.sa o.ra o.ia o.fa o.needs.length o.nc o.segs.length o.gc o.syms.length o.sc o.rels.length o.rc o.init.length o.ic o.fini.length o.fc o rfl rfl rfl rfl rfl hr hf b sym typ
end Go.Proofs.Ytidnojjhchmmgaa
