/- The document's Open: contract. -/
import Derived.Test.YtfneikphgmjfbaaDlU
namespace Go.Proofs.Ytfneikphgmjfbaa
set_option linter.unusedVariables false
set_option linter.unusedSimpArgs false
open Go.Joins Go.ChangeShapes Go.WideShapes Go.ChangeAt Go.RowKit Go.Deep

theorem size_drew' (w : World) : w.drew.heap.size = w.heap.size := rfl
theorem own_empty' {V w' : World} {g B : Nat} (hb : Below (V.alloc (.cells #[] 3)).heap.size (V.alloc (.cells #[] 3)) w') (hg : V.heap.size = g) (hB : B ≤ V.heap.size) : w'.ownsRow B 3 1 (.slice (some ⟨g, 0, none⟩) 0 0) 0 (i64s []) := by
  subst hg
  exact own_below ((own_empty V 3).mono hB) hb
theorem rd_one' {V w' : World} {u : Nat} {y : Int} {t : TypeId} (hb : Below (V.alloc (.cells #[.int .i64 y] t)).heap.size (V.alloc (.cells #[.int .i64 y] t)) w') (hu : V.heap.size = u) : Rd w' (some ⟨u, 0, none⟩) 1 (i64s [y]) := by
  subst hu
  exact (rd_one V y t).below hb
theorem BoxS.grown {W W' : World} {B : Nat} {u v : Value} {row : Option Nat} (h : BoxS W B u v) (hg : W.grownBy W' row) (hr : row ≠ some B) : BoxS W' B u v := by
  have hl := h.cells.2.2.2.1
  obtain ⟨t, h⟩ := h
  exact ⟨t, (hg.block B hl (fun e => hr e.symm)).trans h⟩
/-- those among the first k that are not there yet -/
def flt (ld o : List Nat) (k : Nat) : List Nat := (o.take k).filter fun k => !ld.contains k
theorem flt_snoc (ld o : List Nat) (k : Nat) (h : k < o.length) : flt ld o (k + 1) = flt ld o k ++ (if ld.contains o[k] = true then [] else [o[k]]) := by
  unfold flt
  rw [List.take_succ_eq_append_getElem h, List.filter_append]
  congr 1
  by_cases hf : ld.contains o[k] = true
  · rw [if_pos hf, List.filter_cons_of_neg (by rw [hf]; simp)]; rfl
  · rw [if_neg hf, List.filter_cons_of_pos (by rw [Bool.not_eq_true] at hf; rw [hf]; rfl)]; rfl
theorem flt_le (ld o : List Nat) (k : Nat) : (flt ld o k).length ≤ k := by
  unfold flt
  have h1 := List.length_filter_le (fun k => !ld.contains k) (o.take k)
  have h2 := List.length_take_le k o
  omega
theorem flt_all (ld o : List Nat) : flt ld o o.length = o.filter fun k => !ld.contains k := by unfold flt; rw [List.take_length]
set_option maxRecDepth 100000 in
set_option maxHeartbeats 8000000 in
theorem ropen_yes (a : Option Addr) (l : List Obj) (c : Nat) (a1 a2 : Option Addr) (c1 c2 : Nat) (s : St) (name : List UInt8) (o : List Nat) (w : World) (hl : RdO w a l) (hm : l.length ≤ 100) (hnm : Named l) (hs : RdSt w a1 a2 s) (h1 : s.ld.length ≤ 1000) (h2 : s.op.length ≤ 1000) (hcr : closR l name = .inl o) :
    Calls Try.prog 12 #[.slice a l.length c, .agg #[.slice a1 s.ld.length c1, .slice a2 s.op.length c2], .string ⟨name.toArray⟩] w (StepPost w (Ope l s name)) := by
  obtain ⟨p, r, ho0, hf, hpl, hO, hmem⟩ := closR_fst hcr
  have HL := Lib.hid hl
  have HCL := Lib.hid (fun W (hW : RdO W a l) => rclosure_any a l c name W hW (by omega) hnm)
  have HBE := Lib.hid (fun b d W (hW : RdO W a l) (hV : Rd W b o.length (i64s (ordZ o))) => rbegin_any a l c b o d W hW (by omega) hnm hV hO.2 (by have := hO.le; omega))
  have HRD := Lib.hid hs
  have HCR := Lib.hid hcr
  have HOO := Lib.hid ho0
  have hol := hO.le
  have hpos : 0 < o.length := by rw [ho0]; simp
  have hg0 := ordZ_get o 0 hpos
  rw [show o[0] = p by simp [ho0]] at hg0
  have HG0 := Lib.hid hg0
  clear hl hnm hs hcr hO hmem hf ho0 hg0
  obtain ⟨n1, hn1⟩ : ∃ n, s.ld.length = n := ⟨_, rfl⟩
  obtain ⟨n2, hn2⟩ : ∃ n, s.op.length = n := ⟨_, rfl⟩
  obtain ⟨m, hlm⟩ : ∃ m, l.length = m := ⟨_, rfl⟩
  obtain ⟨n, hn⟩ : ∃ n, o.length = n := ⟨_, rfl⟩
  unfold RdSt at HRD
  rw [hn1, hn2] at HRD
  rw [hlm] at HCL HBE hol hm
  rw [hn] at HBE hol hpos
  rw [hn1] at h1
  rw [hn2] at h2
  rw [hn1, hn2, hlm]
  have HNO := Lib.hid hn
  have HN1 := Lib.hid hn1
  have HN2 := Lib.hid hn2
  have HLM := Lib.hid hlm
  clear hn1 hn2 hlm hn
  go_enter Try.func12, Try.ntmps12
  go_wp2_with fail
  have H0 := Lib.hid (bAlloc (bAlloc (Below.refl w.heap.size w) (.cells #[.slice a1 n1 c1, .slice a2 n2 c2] 32)) (.cells #[.slice none 0 0, .slice none 0 0] 32))
  refine (HCL.out _ (HL.out.below H0.out)).mono ?_; rintro e w1 ⟨hb1, hp⟩
  rw [HCR.out] at hp
  obtain ⟨a3, c3, rfl, hr3⟩ := hp
  rw [HNO.out] at hr3 ⊢
  have R3 := Lib.hid hr3
  have BX0 := Lib.hid ((BoxS.new w (.slice a1 n1 c1) (.slice a2 n2 c2) 32).below (bTrans (bAlloc (Below.refl _ _) _) hb1))
  have BX1 := Lib.hid ((BoxS.new (w.alloc (.cells #[.slice a1 n1 c1, .slice a2 n2 c2] 32)) (.slice none 0 0) (.slice none 0 0) 32).below hb1)
  rw [size_alloc] at BX1
  have B1 := Lib.hid (bTrans H0.out hb1)
  clear hb1 hr3 H0
  go_wp2_with fail
  refine (HBE.out _ _ _ (HL.out.below B1.out) R3.out).mono ?_; rintro e w2 ⟨a4, c4, m4, o4, rfl, hv4, ho4, hg4, hb2⟩
  have BX0 := Lib.hid (BX0.out.below hb2)
  have BX1 := Lib.hid (BX1.out.below hb2)
  have B2 := Lib.hid (bTrans B1.out hb2)
  have R3 := Lib.hid (R3.out.below hb2)
  have R4 := Lib.hid (Rd.of_own ho4)
  have HV4 := Lib.hid hv4
  have hol4 := hg4.le
  rw [HLM.out] at hol4
  obtain ⟨n4, hn4⟩ : ∃ n, o4.length = n := ⟨_, rfl⟩
  rw [hn4] at hol4 R4 ⊢
  have HN4 := Lib.hid hn4
  clear hv4 ho4 hg4 hb2 hn4 B1 HCL HBE
  have HZ2 := BX1.out.cells.2.2.2.1
  go_wp2_with fail
  go_loopw [13, 14] (fun v i wr => ∃ k : Nat, i = .int .i64 k ∧ k ≤ n4 ∧ Hid (wr.ownsRow w2.heap.size 3 1 v (flt s.ld o4 k).length (i64s (ordZ (flt s.ld o4 k)))) ∧ Hid (Below w2.heap.size w2 wr)) (fun _ i _ => n4 - (intOf i).toNat)
  case atStart => exact ⟨0, rfl, by omega, Lib.hid (World.ownsRow_nil _ _ _ _), Lib.hid (Below.refl _ _)⟩
  case round =>
    obtain ⟨k, rfl, hk, HO, HB⟩ := hrel
    obtain ⟨av, cv, rfl, -⟩ := own_slice HO.out
    have hfl := flt_le s.ld o4 k
    by_cases hlt : k < n4
    · have hkl : k < o4.length := by rw [HN4.out]; exact hlt
      have x1 := (BX0.out.below HB.out).cells.1
      obtain ⟨g4, f4, rfl, -, hc⟩ := (R4.out.below HB.out).at_ hlt
      rw [ordZ_get o4 k hkl] at hc
      have hft := flt_snoc s.ld o4 k hkl
      generalize o4[k] = y at hc hft
      have HHA := Lib.hid (fun W (hW : Below wr.heap.size wr W) => has_any a1 (ordZ s.ld) n1 c1 (y : Int) W (HRD.out.1.below (bTrans (bTrans B2.out HB.out) hW)) (by omega))
      rw [ordZ_contains] at HHA
      have kk0 : (0 : Int) ≤ (k : Int) := by omega
      have kk1 : (k : Int) < (n4 : Int) := by omega
      have hls1 := heap_lt_of_cell x1
      have hls2 := heap_lt_of_cell hc
      have HN := Lib.hid (Below.refl wr.heap.size wr)
      have X := Lib.hid (And.intro x1 hc)
      cases hin : s.ld.contains y with
      | true =>
        rw [hin] at HHA hft
        simp only [if_true, List.append_nil] at hft
        have HFT := Lib.hid hft
        clear hft
        go_wp2_with fail
        go_region_held3 (fun W => W.cell? ⟨w.heap.size, 0, none⟩ = some (.slice a1 n1 c1) ∧ W.cell? ⟨g4, f4 + k, none⟩ = some (.int .i64 (y : Int)))
          (first | exact X.out | go_keep)
          (first
            | (go_at_call 23; (with_reducible refine (HHA.out _ (by first | ((repeat (first | exact HN.out | exact HW.out | with_reducible refine Below.drew ?_ | with_reducible refine bAlloc ?_ _)); done) | fail)).mono ?_); rintro e w7 ⟨rfl, rfl⟩))
        go_wp2_with fail
        go_roundw
        case rel => exact ⟨k + 1, by go_num, by omega, Lib.hid (by rw [HFT.out]; exact own_below HO.out (Below.drew (Below.refl _ _))), Lib.hid (Below.drew HB.out)⟩
        case measure => simp [intOf]; omega
      | false =>
        rw [hin] at HHA hft
        simp only [Bool.false_eq_true, if_false] at hft
        have HFT := Lib.hid hft
        clear hft
        go_wp2_with fail
        go_region_held3 (fun W => W.cell? ⟨w.heap.size, 0, none⟩ = some (.slice a1 n1 c1) ∧ W.cell? ⟨g4, f4 + k, none⟩ = some (.int .i64 (y : Int)))
          (first | exact X.out | go_keep)
          (first
            | (go_at_call 23; (with_reducible refine (HHA.out _ (by first | ((repeat (first | exact HN.out | exact HW.out | with_reducible refine Below.drew ?_ | with_reducible refine bAlloc ?_ _)); done) | fail)).mono ?_); rintro e w7 ⟨rfl, rfl⟩))
        have HB := Lib.hid (Below.drew HB.out)
        have HO := Lib.hid (own_below HO.out (Below.drew (Below.refl wr.heap.size wr)))
        have hc2 : wr.drew.cell? ⟨g4, f4 + k, none⟩ = some (.int .i64 (y : Int)) := hc
        clear hc x1 X HN HHA
        generalize wr.drew = W at *
        have hsz := HB.out.size
        go_wp2_with (at_builtin; refine wpList_app _ rfl _ _ rfl w2.heap.size (.slice av (flt s.ld o4 k).length cv) _ (ordZ (flt s.ld o4 k)) rfl (own_below HO.out (bAlloc (Below.refl _ _) _)) _ 1 1 [(y : Int)] rfl (rd_one _ (y : Int) 3) (by omega) (by simp; omega) ?_; intro a6 c6 w6 hown6 hgrow6 hat6; have HB6 := Lib.hid (grownB (bAlloc HB.out (.cells #[.int .i64 (y : Int)] 3)) hgrow6 (fun g hg => ((own_below HO.out (bAlloc (Below.refl _ _) (.cells #[.int .i64 (y : Int)] 3))).lt g hg).1)); have O6 := Lib.hid hown6; clear hown6 hgrow6 hat6)
        have O7 := O6.out
        rw [show ordZ (flt s.ld o4 k) ++ [(y : Int)] = ordZ (flt s.ld o4 (k + 1)) by rw [HFT.out, ordZ_append]; rfl, show (flt s.ld o4 k).length + 1 = (flt s.ld o4 (k + 1)).length by rw [HFT.out, List.length_append]; rfl] at O7
        have hlen7 : (flt s.ld o4 (k + 1)).length = (flt s.ld o4 k).length + 1 := by rw [HFT.out, List.length_append]; rfl
        rw [← hlen7]
        have O7 := Lib.hid O7
        clear O6
        go_wp2_with fail
        go_roundw
        case rel => exact ⟨k + 1, by go_num, by omega, O7, HB6⟩
        case measure => simp [intOf]; omega
    · have hke : k = n4 := by omega
      have htk : flt s.ld o4 k = o4.filter (fun k => !s.ld.contains k) := by rw [hke, ← HN4.out, flt_all]
      obtain ⟨bb, hbb⟩ : ∃ b, flt s.ld o4 k = b := ⟨_, rfl⟩
      rw [hbb] at HO hfl htk ⊢
      have HBB := Lib.hid htk
      obtain ⟨n5, hn5⟩ : ∃ n, bb.length = n := ⟨_, rfl⟩
      rw [hn5] at HO hfl ⊢
      have HN5 := Lib.hid hn5
      clear htk hbb hn5
      have BX0 := Lib.hid (BX0.out.below HB.out)
      have BX1 := Lib.hid (BX1.out.below HB.out)
      have B2 := Lib.hid (bTrans B2.out HB.out)
      have R3 := Lib.hid (R3.out.below HB.out)
      have R2 := Lib.hid (HRD.out.2.below B2.out)
      have R1 := Lib.hid (HRD.out.1.below B2.out)
      have HO := Lib.hid (HO.out.mono (show w.heap.size ≤ w2.heap.size by omega))
      clear HB R4
      obtain ⟨x1, x2, -, x3, -⟩ := BX0.out.cells
      have HN := Lib.hid (Below.refl wr.heap.size wr)
      go_wp2_with (at_builtin; first
        | (refine wpList_app0 _ rfl _ _ rfl (wr.heap.size + 1) (wr.heap.size + 1) rfl (own_empty' (Below.refl _ _) (size_alloc _ _) (by simp)) a1 n1 c1 (ordZ s.ld) rfl (R1.out.below (by first | ((repeat (first | exact HN.out | exact HW.out | with_reducible refine Below.drew ?_ | with_reducible refine bAlloc ?_ _)); done) | fail)) (by omega) (by simp) ?_; intro a6 c6 w6 hown6 hb6 hat6; have NB6 := Lib.hid ((BoxS.new wr (.slice none 0 0) (.slice none 0 0) 32).below (bTrans (bAlloc (Below.refl _ _) _) hb6)); have HN := Lib.hid (bTrans (w := wr) (by first | ((repeat (first | exact HN.out | exact HW.out | with_reducible refine Below.drew ?_ | with_reducible refine bAlloc ?_ _)); done) | fail) hb6); have O6 := Lib.hid hown6; clear hown6 hb6 hat6)
        | (refine wpList_app _ rfl _ _ rfl (wr.heap.size + 1) (.slice a6 n1 c6) n1 (ordZ s.ld) rfl O6.out av n5 cv (ordZ bb) rfl ((Rd.of_own HO.out).below HN.out) (by omega) (by have := NB6.out.cells.2.2.2.1; omega) ?_; intro a7 c7 w7 hown7 hgrow7 hat7; have NB7 := Lib.hid (NB6.out.grown hgrow7 (fun e => by have := O6.out.lt _ e; omega)); have HN := Lib.hid (grownB HN.out hgrow7 (fun q hq => by have := O6.out.lt q hq; omega)); have O7 := Lib.hid hown7; have z1 := NB7.out.cells.1; have z2 := NB7.out.cells.2.2.1 0; clear hown7 hgrow7 hat7))
      have W2a := Lib.hid (NB7.out.set0 (.slice a7 (n1 + n5) c7))
      have W2b := Lib.hid ((BX0.out.below HN.out).other (j := 0) (x := .slice a7 (n1 + n5) c7) (show w.heap.size ≠ wr.heap.size by omega))
      have W2c := Lib.hid ((BX1.out.below HN.out).other (j := 0) (x := .slice a7 (n1 + n5) c7) (show w.heap.size + 1 ≠ wr.heap.size by have := BX1.out.cells.2.2.2.1; omega))
      have R7 := Lib.hid (rd_box (j := 0) (x := .slice a7 (n1 + n5) c7) NB7.out (Rd.of_own O7.out))
      have RV := Lib.hid (rd_box (j := 0) (x := .slice a7 (n1 + n5) c7) NB7.out ((Rd.of_own HO.out).below HN.out))
      have R3 := Lib.hid (rd_box (j := 0) (x := .slice a7 (n1 + n5) c7) NB7.out (R3.out.below HN.out))
      have R2 := Lib.hid (rd_box (j := 0) (x := .slice a7 (n1 + n5) c7) NB7.out (R2.out.below HN.out))
      have B2 := Lib.hid ((bTrans B2.out HN.out).setCell (p := ⟨wr.heap.size, 0, none⟩) (by show w.heap.size ≤ wr.heap.size; omega) (.slice a7 (n1 + n5) c7))
      have hwr := BX1.out.cells.2.2.2.1
      clear z1 z2 NB6 NB7 O6 O7 HN HO BX0 BX1 R1 x1 x2 x3 HZ2
      generalize w7.setCell ⟨wr.heap.size, 0, none⟩ (.slice a7 (n1 + n5) c7) = W2 at *
      obtain ⟨x1, x2, -, x3, -⟩ := W2b.out.cells
      obtain ⟨g3, f3, rfl, -, hc0⟩ := R3.out.at_ hpos
      rw [HG0.out, Nat.add_zero] at hc0
      have hpos2 : (0 : Int) < (n : Int) := by omega
      have HN := Lib.hid (Below.refl W2.heap.size W2)
      have X := Lib.hid (And.intro x2 hc0)
      have hl1 := heap_lt_of_cell x2
      have hl2 := heap_lt_of_cell hc0
      have HK := Lib.hid (fun (W' : World) (h : Below W2.heap.size W2 W') => And.intro ((h.cell (p := ⟨w.heap.size, 1, none⟩) hl1).trans x2) ((h.cell (p := ⟨g3, f3, none⟩) hl2).trans hc0))
      have hg3 : g3 ≠ wr.heap.size := ne_box W2a.out.cells.2.2.2.2 hc0 (by simp) (by simp)
      have hw3 : w.heap.size ≠ wr.heap.size := by omega
      have HKS := Lib.hid (fun (W' : World) (u : Value) (h : Below W2.heap.size W2 W') => And.intro ((World.cell?_setCell_other W' ⟨wr.heap.size, 1, none⟩ ⟨w.heap.size, 1, none⟩ u (by first | (simp; done) | (simp; omega))).trans (HK.out W' h).1) ((World.cell?_setCell_other W' ⟨wr.heap.size, 1, none⟩ ⟨g3, f3, none⟩ u (by first | (simp; done) | (simp; intro q; exact absurd q.symm hg3))).trans (HK.out W' h).2))
      clear x1 x2 x3 hc0 hg3 hw3
      go_region_held3 (fun W => W.cell? ⟨w.heap.size, 1, none⟩ = some (.slice a2 n2 c2) ∧ W.cell? ⟨g3, f3, none⟩ = some (.int .i64 (p : Int)))
        (first | exact X.out | exact HK.out _ (by first | ((repeat (first | exact HN.out | exact HW.out | with_reducible refine Below.drew ?_ | with_reducible refine bAlloc ?_ _)); done) | fail) | exact HKS.out _ _ (by first | ((repeat (first | exact HN.out | exact HW.out | with_reducible refine Below.drew ?_ | with_reducible refine bAlloc ?_ _)); done) | fail) | go_keep)
        (first
          | ((refine step_app0 _ rfl _ _ rfl W2.heap.size _ rfl (by first | exact own_empty' (by first | ((repeat (first | exact Below.refl _ _ | with_reducible refine Below.drew ?_ | with_reducible refine bAlloc ?_ _)); done) | fail) (by first | rfl | (simp only [size_alloc, size_drew']; done) | fail) (by simp) | fail) a2 n2 c2 (ordZ s.op) rfl (R2.out.below (by first | ((repeat (first | exact HN.out | exact HW.out | with_reducible refine Below.drew ?_ | with_reducible refine bAlloc ?_ _)); done) | fail)) (by omega) (Below.size (B := W2.heap.size) (by first | ((repeat (first | exact HN.out | exact HW.out | with_reducible refine Below.drew ?_ | with_reducible refine bAlloc ?_ _)); done) | fail)) ?_); intro a8 c8 w8 hown8 hb8 hat8; have O8 := Lib.hid hown8; have HN := Lib.hid (bTrans (w := W2) (by first | ((repeat (first | exact HN.out | exact HW.out | with_reducible refine Below.drew ?_ | with_reducible refine bAlloc ?_ _)); done) | fail) hb8); (try (have q0 := Lib.hid (rd_one' (y := (p : Int)) (u := W2.heap.size) (t := 3) (bTrans (by first | ((repeat (first | exact Below.refl _ _ | with_reducible refine Below.drew ?_ | with_reducible refine bAlloc ?_ _)); done) | fail) hb8) (by first | rfl | (simp only [size_alloc, size_drew']; done) | fail)))); (try (have q1 := Lib.hid (rd_one' (y := (p : Int)) (u := W2.heap.size + 1) (t := 3) (bTrans (by first | ((repeat (first | exact Below.refl _ _ | with_reducible refine Below.drew ?_ | with_reducible refine bAlloc ?_ _)); done) | fail) hb8) (by first | rfl | (simp only [size_alloc, size_drew']; done) | fail)))); have hs8 := HN.out.size; clear hown8 hb8 hat8)
          | ((refine step_app _ rfl _ _ rfl W2.heap.size (.slice a8 n2 c8) n2 (ordZ s.op) rfl (own_below O8.out (by first | ((repeat (first | exact Below.refl _ _ | with_reducible refine Below.drew ?_ | with_reducible refine bAlloc ?_ _)); done) | fail)) (some ⟨_, 0, none⟩) 1 1 [(p : Int)] rfl (by first | exact q0.out.below (by first | ((repeat (first | exact Below.refl _ _ | with_reducible refine Below.drew ?_ | with_reducible refine bAlloc ?_ _)); done) | fail) | exact q1.out.below (by first | ((repeat (first | exact Below.refl _ _ | with_reducible refine Below.drew ?_ | with_reducible refine bAlloc ?_ _)); done) | fail) | exact rd_one' (by first | ((repeat (first | exact Below.refl _ _ | with_reducible refine Below.drew ?_ | with_reducible refine bAlloc ?_ _)); done) | fail) (by first | rfl | (simp only [size_alloc, size_drew']; done) | fail) | fail) (by omega) (Below.size (B := W2.heap.size) (by first | ((repeat (first | exact HN.out | exact HW.out | with_reducible refine Below.drew ?_ | with_reducible refine bAlloc ?_ _)); done) | fail)) ?_); intro a9 c9 w9 hown9 hgrow9 hat9; have HN := Lib.hid (grownB (w := W2) (by first | ((repeat (first | exact HN.out | exact HW.out | with_reducible refine Below.drew ?_ | with_reducible refine bAlloc ?_ _)); done) | fail) hgrow9 (fun q hq => (O8.out.lt q hq).1)); have R9 := Lib.hid (Rd.of_own hown9); have z1 := (W2a.out.below HN.out).cells.2.1; have z2 := (W2a.out.below HN.out).cells.2.2.1 1; clear hown9 hgrow9 hat9))
      all_goals
        have V9a := Lib.hid ((W2a.out.below HN.out).set1 (.slice a9 (n2 + 1) c9))
        have V9c := Lib.hid ((W2c.out.below HN.out).other (j := 1) (x := .slice a9 (n2 + 1) c9) (show w.heap.size + 1 ≠ wr.heap.size by omega))
        have S7 := Lib.hid (rd_box (j := 1) (x := .slice a9 (n2 + 1) c9) (W2a.out.below HN.out) (R7.out.below HN.out))
        have SV := Lib.hid (rd_box (j := 1) (x := .slice a9 (n2 + 1) c9) (W2a.out.below HN.out) (RV.out.below HN.out))
        have S9 := Lib.hid (rd_box (j := 1) (x := .slice a9 (n2 + 1) c9) (W2a.out.below HN.out) R9.out)
        have B9 := Lib.hid ((bTrans B2.out HN.out).setCell (p := ⟨wr.heap.size, 1, none⟩) (by show w.heap.size ≤ wr.heap.size; omega) (.slice a9 (n2 + 1) c9))
        clear z1 z2 HN HK HKS X R9 R7 RV W2a W2b W2c R2 R3 B2 hl1 hl2
        generalize w9.setCell ⟨wr.heap.size, 1, none⟩ (.slice a9 (n2 + 1) c9) = W9 at *
        obtain ⟨u1, u2, -, u5, -⟩ := V9a.out.cells
        obtain ⟨v1, v2, v3, v5, -⟩ := V9c.out.cells
        have v6 := v3 0
        have v7 := v3 1
        have HRR := Lib.hid (show Ope l s name ⟨s.ld ++ bb, s.op ++ [p]⟩ bb 0 from Or.inr ⟨p, o4, ⟨o, m4, HCR.out, by rw [HOO.out]; rfl, HV4.out⟩, HBB.out.symm ▸ rfl, rfl, rfl⟩)
        clear v3
        go_wp2_with fail
        have kc := set2 (.slice a7 (n1 + n5) c7) (.slice a9 (n2 + 1) c9) v1 v2
        have k1 := rd_box2 (a3 := a7) (n3 := n1 + n5) (c3 := c7) (y := .slice a9 (n2 + 1) c9) V9c.out S7.out
        have k2 := rd_box2 (a3 := a7) (n3 := n1 + n5) (c3 := c7) (y := .slice a9 (n2 + 1) c9) V9c.out S9.out
        have k3 := rd_box2 (a3 := a7) (n3 := n1 + n5) (c3 := c7) (y := .slice a9 (n2 + 1) c9) V9c.out SV.out
        rw [← ordZ_append] at k1
        rw [show ordZ s.op ++ [(p : Int)] = ordZ (s.op ++ [p]) by rw [ordZ_append]; rfl] at k2
        refine bodyPost_ret (v := .tuple #[.agg #[.slice a7 (n1 + n5) c7, .slice a9 (n2 + 1) c9], .slice av n5 cv, .int .i64 0]) ?_ rfl (step_of ⟨s.ld ++ bb, s.op ++ [p]⟩ bb HRR.out (by rw [List.length_append, HN1.out, HN5.out]) (by rw [List.length_append, HN2.out]; rfl) HN5.out k1 k2 k3 ((B9.out.setCell (by simp) _).setCell (by simp) _))
        simp [results, Try.results12, go_sem, kc.1, kc.2]
theorem ropen_any (a : Option Addr) (l : List Obj) (c : Nat) (a1 a2 : Option Addr) (c1 c2 : Nat) (s : St) (name : List UInt8) (w : World) (hl : RdO w a l) (hm : l.length ≤ 100) (hnm : Named l) (hs : RdSt w a1 a2 s) (h1 : s.ld.length ≤ 1000) (h2 : s.op.length ≤ 1000) :
    Calls Try.prog 12 #[.slice a l.length c, .agg #[.slice a1 s.ld.length c1, .slice a2 s.op.length c2], .string ⟨name.toArray⟩] w (StepPost w (Ope l s name)) := by
  cases hcr : closR l name with
  | inr nn => exact ropen_no a l c a1 a2 c1 c2 s name nn w hl hm hnm hs hcr
  | inl o => exact ropen_yes a l c a1 a2 c1 c2 s name o w hl hm hnm hs h1 h2 hcr
end Go.Proofs.Ytfneikphgmjfbaa
