/- Ta3 -/
import Derived.Test.YtegoddghfjfibaaGreatDoorZ04
import Derived.Lib.SliceRun
namespace Go.Proofs.YtegoddghfjfibaaGreatDoor
set_option linter.unusedVariables false
set_option linter.unusedSimpArgs false
open Go.Joins Go.ChangeShapes Go.WideShapes Go.ChangeAt Go.RowKit Go.Deep

theorem spot_place (pb : Nat → Nat) (m : Mm) (a : Nat) : (spotE m a = 0 ∧ a % 32 = 0 ∧ a / 256 ∈ m.pgs ∧ placeV pb m a 32 = .tuple #[.pointer (some ⟨pb (a / 256), 0, none⟩), .int .i64 ((a % 256 : Nat) : Int), .int .i64 0]) ∨
    (spotE m a ≠ 0 ∧ placeV pb m a 32 = .tuple #[.pointer none, .int .i64 0, .int .i64 (spotE m a)]) := by
  have hd : ((a : Int) / 256).toNat = a / 256 := by omega
  unfold spotE placeV isIn
  rw [hd]
  by_cases hal : a % 32 = 0
  · rw [if_neg (show ¬ ((a : Int) % 32 ≠ 0) by omega), if_neg (show ¬ (a % 32 ≠ 0) by omega)]
    by_cases hin : a / 256 ∈ m.pgs
    · left
      rw [if_pos hin, if_pos (decide_eq_true hin)]
      exact ⟨rfl, hal, hin, rfl⟩
    · right
      rw [if_neg hin, if_neg (by rw [decide_eq_false hin]; decide)]
      exact ⟨by decide, rfl⟩
  · right
    rw [if_pos (show (a : Int) % 32 ≠ 0 by omega), if_pos hal]
    exact ⟨by decide, rfl⟩
theorem below_set {w w' : World} (h : Below w.heap.size w w') {B j : Nat} (hB : w.heap.size ≤ B) (u : Value) : Below w.heap.size w (w'.setCell ⟨B, j, none⟩ u) := Below.setCell h (p := ⟨B, j, none⟩) hB u
theorem ofB_many (m : Mm) (a n : Nat) (h : 8 ≤ n) : ofB (manyB m a n) = ofB (manyB m a 8) := by
  unfold ofB
  obtain ⟨k, rfl⟩ : ∃ k, n = 8 + k := ⟨n - 8, by omega⟩
  rw [manyB_add, List.take_append_of_le_length (by rw [manyB_len]; exact Nat.le_refl _)]
theorem run_cut8 (w : World) (b i n m c : Nat) (hn : n ≤ m) (hc : m ≤ c) (hne : n < c) : (Instr.sliceAt 42 (.slice (some ⟨b, i, none⟩) m c) (some (.int .i64 (n : Int))) none none).run Tryz.prog w = .ok (.slice (some ⟨b, i + n, none⟩) (m - n) (c - n)) w := by
  rw [run_cutB w _ n m c hn hc]
  unfold cutA
  rw [if_neg (by omega)]
  simp [Addr.add]
set_option maxRecDepth 100000 in
set_option maxHeartbeats 2000000 in
theorem loadC_any (W : World) (M B : Nat) (D : DataW Unit) (pb : Nat → Nat) (F : Nat → Prop) (m : Mm) (h : MemO W M B D pb F m) (a : Nat) (ha : a < 18446744073709551616) :
    Calls Tryz.prog 51 #[.pointer (some ⟨M, 0, none⟩), .int .u64 (a : Int)] W fun e W' => e = .returned (.tuple #[.agg (capC (loadC m a).1).toArray, .int .i64 (loadC m a).2]) ∧ Below W.heap.size W W' := by
  obtain ⟨S, hS⟩ : ∃ S, W.heap.size = S := ⟨_, rfl⟩
  obtain ⟨W1, hW1⟩ : ∃ W1, W.alloc (.cells #[.int .u64 0, .int .u64 0, .int .u64 0, .int .i64 0, .int .i64 0, .bool false] 24) = W1 := ⟨_, rfl⟩
  have HX : Hid (BoxN W1 S #[.int .u64 0, .int .u64 0, .int .u64 0, .int .i64 0, .int .i64 0, .bool false]) := Lib.hid (by rw [← hW1, ← hS]; exact BoxN.new W _ _)
  have HB : Hid (Below W.heap.size W W1) := Lib.hid (by rw [← hW1]; exact bAlloc (Below.refl _ _) _)
  have hM1 := h.below HB.out
  have HP := Lib.hid (place_any W1 M B D pb F m hM1 a 32 ha (by decide) (by decide))
  simp only [Int.cast_ofNat_Int] at HP
  have hz1 : W1.heap.size = S + 1 := by rw [← hW1, size_alloc, hS]
  have HW1 := Lib.hid hW1
  have HS := Lib.hid hS
  have HZ1 := Lib.hid hz1
  rcases spot_place pb m a with ⟨he, hal, hin, hv⟩ | ⟨he, hv⟩
  · have hl : loadC m a = (capOf m a, 0) := by unfold loadC; rw [if_pos he, Int.toNat_natCast]
    rw [hl]
    rw [hv] at HP
    obtain ⟨i, hi⟩ : ∃ i, a % 256 = i := ⟨_, rfl⟩
    obtain ⟨c, hc⟩ : ∃ c, i + c = 256 := ⟨256 - i, by omega⟩
    obtain ⟨g, hg⟩ : ∃ g, i / 32 = g := ⟨_, rfl⟩
    have hi8 : 256 - i = c := by omega
    have hrd := hM1.rdB a 32 hin (by omega)
    have hrd8 := hM1.rdB (a + 8) 24 (by rw [show (a + 8) / 256 = a / 256 by omega]; exact hin) (by omega)
    have hrd16 := hM1.rdB (a + 16) 16 (by rw [show (a + 16) / 256 = a / 256 by omega]; exact hin) (by omega)
    rw [show (a + 8) / 256 = a / 256 by omega, show (a + 8) % 256 = i + 8 by omega] at hrd8
    rw [show (a + 16) / 256 = a / 256 by omega, show (a + 16) % 256 = i + 16 by omega] at hrd16
    rw [hi] at HP hrd
    have hbx := hM1.pg _ hin
    have hc24 : W1.cell? ⟨pb (a / 256), i + 24, none⟩ = some (.int .u8 (m.by_ (a + 24) : Int)) := by rw [hbx.cell, List.getElem?_toArray, pageC_by _ _ _ (by omega), show 256 * (a / 256) + (i + 24) = a + 24 by omega]
    have hc25 : W1.cell? ⟨pb (a / 256), i + 25, none⟩ = some (.int .u8 (m.by_ (a + 25) : Int)) := by rw [hbx.cell, List.getElem?_toArray, pageC_by _ _ _ (by omega), show 256 * (a / 256) + (i + 25) = a + 25 by omega]
    have hcg : W1.cell? ⟨pb (a / 256), 256 + g, none⟩ = some (.bool (decide (a / 32 ∈ m.mks))) := by rw [hbx.cell, List.getElem?_toArray, pageC_tag _ _ _ (by omega), show 8 * (a / 256) + g = a / 32 by omega]
    have hb24 := h.ok.by_ (a + 24)
    have hb25 := h.ok.by_ (a + 25)
    obtain ⟨q, hq⟩ : ∃ q, pb (a / 256) = q := ⟨_, rfl⟩
    have hqs : q < W1.heap.size := by rw [← hq]; exact hbx.lt
    rw [hq] at HP hrd hrd8 hrd16 hc24 hc25 hcg
    have HO0 := Lib.hid (fun (W' : World) (hb : Below W1.heap.size W1 W') => of_any (some ⟨q, i, none⟩) 32 c _ W' (hrd.below hb) (manyB_lt h.ok _ _) (by decide))
    have HO1 := Lib.hid (fun (W' : World) (hb : Below W1.heap.size W1 W') => of_any (some ⟨q, i + 8, none⟩) 24 (c - 8) _ W' (hrd8.below hb) (manyB_lt h.ok _ _) (by decide))
    have HO2 := Lib.hid (fun (W' : World) (hb : Below W1.heap.size W1 W') => of_any (some ⟨q, i + 16, none⟩) 16 (c - 16) _ W' (hrd16.below hb) (manyB_lt h.ok _ _) (by decide))
    rw [ofB_many m a 32 (by decide)] at HO0
    rw [ofB_many m (a + 8) 24 (by decide)] at HO1
    rw [ofB_many m (a + 16) 16 (by decide)] at HO2
    have hcap : (capC (capOf m a)).toArray = #[.int .u64 ((ofB (manyB m a 8) : Nat) : Int), .int .u64 ((ofB (manyB m (a + 8) 8) : Nat) : Int), .int .u64 ((ofB (manyB m (a + 16) 8) : Nat) : Int), .int .i64 (m.by_ (a + 24) : Int), .int .i64 (typeOf (m.by_ (a + 25))), .bool (decide (a / 32 ∈ m.mks))] := rfl
    rw [hcap]
    have hty : typeOf (m.by_ (a + 25)) = if m.by_ (a + 25) ≤ 63 then (m.by_ (a + 25) : Int) else -1 := rfl
    obtain ⟨x0, hx0⟩ : ∃ x, ((ofB (manyB m a 8) : Nat) : Int) = x := ⟨_, rfl⟩
    obtain ⟨x1, hx1⟩ : ∃ x, ((ofB (manyB m (a + 8) 8) : Nat) : Int) = x := ⟨_, rfl⟩
    obtain ⟨x2, hx2⟩ : ∃ x, ((ofB (manyB m (a + 16) 8) : Nat) : Int) = x := ⟨_, rfl⟩
    obtain ⟨x3, hx3⟩ : ∃ x, m.by_ (a + 24) = x := ⟨_, rfl⟩
    obtain ⟨x4, hx4⟩ : ∃ x, m.by_ (a + 25) = x := ⟨_, rfl⟩
    obtain ⟨x5, hx5⟩ : ∃ x, decide (a / 32 ∈ m.mks) = x := ⟨_, rfl⟩
    rw [hx0] at HO0
    rw [hx1] at HO1
    rw [hx2] at HO2
    rw [hx3] at hc24 hb24
    rw [hx4] at hc25 hb25
    rw [hx5] at hcg
    rw [hx4] at hty
    rw [hx0, hx1, hx2, hx3, hx4, hx5]
    have hsl := fun w => run_slA w q i 32 (by omega) (by omega)
    rw [hi8] at hsl
    have hs8 := fun w => run_cut8 w q i 8 32 c (by omega) (by omega) (by omega)
    have hs16 := fun w => run_cut8 w q i 16 32 c (by omega) (by omega) (by omega)
    simp only [Nat.reduceSub, Int.cast_ofNat_Int] at hsl hs8 hs16
    have w1 : IntKind.i64.wrap ((i : Int) + 32) = (i : Int) + 32 := by rw [IntKind.wrap_i64]; omega
    have w3 : IntKind.i64.wrap (x3 : Int) = (x3 : Int) := IntWalk.i64_in _ (by omega)
    have w4 : IntKind.i64.wrap (x4 : Int) = (x4 : Int) := IntWalk.i64_in _ (by omega)
    have e0 : (i : Int).tdiv 32 = (g : Int) := by rw [Int.tdiv_eq_ediv_of_nonneg (by omega)]; omega
    have e0' : (i : Int) / 32 = (g : Int) := by omega
    have g8 : (g : Int) < 8 := by omega
    have wg : IntKind.i64.wrap (g : Int) = (g : Int) := IntWalk.i64_in _ (by omega)
    have g0 : (0 : Int) ≤ (g : Int) := by omega
    have HTY := Lib.hid hty
    clear hl hv he h hM1 hi hc hg hi8 hrd hrd8 hrd16 hbx hcap hty hx0 hx1 hx2 hx3 hx4 hx5 hq hin hal
    go_enter Tryz.func51, Tryz.ntmps51
    go_upto_region 1 with fail
    go_wp2_with fail
    refine HP.out.mono ?_; rintro e W0 ⟨rfl, rfl⟩
    go_upto_region 5 with fail
    have HBD : Hid (Below W1.heap.size W1 W1.drew) := Lib.hid (below_dN W1 1)
    have HBA0 : Hid (Below W1.heap.size W1 (W1.alloc (.cells #[.int .u64 0, .int .u64 0, .int .u64 0, .int .i64 0, .int .i64 0, .bool false] 24))) := Lib.hid (bAlloc (Below.refl _ _) _)
    have HBA : Hid (Below W1.heap.size W1 (W1.alloc (.cells #[.int .u64 0, .int .u64 0, .int .u64 0, .int .i64 0, .int .i64 0, .bool false] 24)).drew) := Lib.hid (bTrans HBA0.out (below_dN _ 1))
    have ha24 : (W1.alloc (.cells #[.int .u64 0, .int .u64 0, .int .u64 0, .int .i64 0, .int .i64 0, .bool false] 24)).cell? ⟨q, i + 24, none⟩ = some (.int .u8 (x3 : Int)) := (HBA0.out.cell (p := ⟨q, i + 24, none⟩) hqs).trans hc24
    have hag : (W1.alloc (.cells #[.int .u64 0, .int .u64 0, .int .u64 0, .int .i64 0, .int .i64 0, .bool false] 24)).cell? ⟨q, 256 + g, none⟩ = some (.bool x5) := (HBA0.out.cell (p := ⟨q, 256 + g, none⟩) hqs).trans hcg
    have HBC : Hid (Below W1.heap.size W1 (W1.drew.alloc (.cells #[.int .u64 0, .int .u64 0, .int .u64 0, .int .i64 0, .int .i64 0, .bool false] 24))) := Lib.hid (bAlloc HBD.out _)
    go_region_held3 (fun W => W.cell? ⟨q, i + 24, none⟩ = some (.int .u8 (x3 : Int)) ∧ W.cell? ⟨q, 256 + g, none⟩ = some (.bool x5))
      (first | exact ⟨hc24, hcg⟩ | go_keep)
      (first
        | (go_at_call 118; (with_reducible refine (HO0.out _ HBD.out).mono ?_); rintro e W2 ⟨rfl, rfl⟩)
        | (go_at_call 118; (with_reducible refine (HO0.out _ HBA.out).mono ?_); rintro e W2 ⟨rfl, rfl⟩)
        | (go_at_call 118; (with_reducible refine (HO0.out _ HBC.out).mono ?_); rintro e W2 ⟨rfl, rfl⟩)
        | (go_at_call 118; (with_reducible refine (HO1.out _ HBD.out).mono ?_); rintro e W2 ⟨rfl, rfl⟩)
        | (go_at_call 118; (with_reducible refine (HO1.out _ HBA.out).mono ?_); rintro e W2 ⟨rfl, rfl⟩)
        | (go_at_call 118; (with_reducible refine (HO1.out _ HBC.out).mono ?_); rintro e W2 ⟨rfl, rfl⟩)
        | (go_at_call 118; (with_reducible refine (HO2.out _ HBD.out).mono ?_); rintro e W2 ⟨rfl, rfl⟩)
        | (go_at_call 118; (with_reducible refine (HO2.out _ HBA.out).mono ?_); rintro e W2 ⟨rfl, rfl⟩)
        | (go_at_call 118; (with_reducible refine (HO2.out _ HBC.out).mono ?_); rintro e W2 ⟨rfl, rfl⟩))
    all_goals
      have hcap : W1.heap.size = S + 1 := HZ1.out
      obtain ⟨U, hU⟩ : ∃ U, (W1.alloc (.cells #[.int .u64 x0, .int .u64 x1, .int .u64 x2, .int .i64 (x3 : Int), .int .i64 (-1), .bool x5] 24)).drew = U := ⟨_, rfl⟩
      have HBU : Hid (Below W1.heap.size W1 U) := Lib.hid (by rw [← hU]; exact bTrans (bAlloc (Below.refl _ _) _) (below_dN _ 1))
      have HX := Lib.hid (boxN_below HX.out HBU.out)
      have HY : Hid (BoxN U (S + 1) #[.int .u64 x0, .int .u64 x1, .int .u64 x2, .int .i64 (x3 : Int), .int .i64 (-1), .bool x5]) := Lib.hid (by rw [← hU, ← hcap]; exact boxN_below (BoxN.new W1 _ _) (below_dN _ 1))
      have HB := Lib.hid (bTrans HB.out HBU.out)
      have hu25 : U.cell? ⟨q, i + 25, none⟩ = some (.int .u8 (x4 : Int)) := (HBU.out.cell (p := ⟨q, i + 25, none⟩) hqs).trans hc25
      have hSl : W.heap.size ≤ S := by rw [HS.out]; exact Nat.le_refl _
      rw [hU]
      clear hU hc24 hc25 hcg hcap ha24 hag hS hW1 hz1
      by_cases h64 : x4 ≤ 63
      · have hty : typeOf x4 = (x4 : Int) := if_pos h64
        have h64i : (x4 : Int) < 64 := by omega
        have HTY := Lib.hid hty
        have y4 : U.cell? ⟨S + 1, 4, none⟩ = some (.int .i64 (-1)) := HY.out.cell 4
        have yz : U.frozen? ⟨S + 1, 4, none⟩ = false := HY.out.frozen 4
        clear hty
        go_upto_region 8 with fail
        have HX := Lib.hid (HX.out.kp (KP.set1 U (S + 1) 4 (.int .i64 (x4 : Int))) HX.out.lt (by omega))
        have HY := Lib.hid (show BoxN _ _ #[.int .u64 x0, .int .u64 x1, .int .u64 x2, .int .i64 (x3 : Int), .int .i64 (x4 : Int), .bool x5] from HY.out.set 4 (.int .i64 (x4 : Int)))
        have HB := Lib.hid (below_set (B := S + 1) (j := 4) HB.out (by omega) (.int .i64 (x4 : Int)))
        obtain ⟨V, hV⟩ : ∃ W', U.setCell ⟨S + 1, 4, none⟩ (.int .i64 (x4 : Int)) = W' := ⟨_, rfl⟩
        rw [hV] at HX HY HB ⊢
        clear hV y4 yz hu25
        have y0 : V.cell? ⟨S + 1, 0, none⟩ = some (.int .u64 x0) := HY.out.cell 0
        have y1 : V.cell? ⟨S + 1, 1, none⟩ = some (.int .u64 x1) := HY.out.cell 1
        have y2 : V.cell? ⟨S + 1, 2, none⟩ = some (.int .u64 x2) := HY.out.cell 2
        have y3 : V.cell? ⟨S + 1, 3, none⟩ = some (.int .i64 (x3 : Int)) := HY.out.cell 3
        have y4 : V.cell? ⟨S + 1, 4, none⟩ = some (.int .i64 (x4 : Int)) := HY.out.cell 4
        have y5 : V.cell? ⟨S + 1, 5, none⟩ = some (.bool x5) := HY.out.cell 5
        have c0 : V.cell? ⟨S, 0, none⟩ = some (.int .u64 0) := HX.out.cell 0
        have z0 : V.frozen? ⟨S, 0, none⟩ = false := HX.out.frozen 0
        have c1 : V.cell? ⟨S, 1, none⟩ = some (.int .u64 0) := HX.out.cell 1
        have z1 : V.frozen? ⟨S, 1, none⟩ = false := HX.out.frozen 1
        have c2 : V.cell? ⟨S, 2, none⟩ = some (.int .u64 0) := HX.out.cell 2
        have z2 : V.frozen? ⟨S, 2, none⟩ = false := HX.out.frozen 2
        have c3 : V.cell? ⟨S, 3, none⟩ = some (.int .i64 0) := HX.out.cell 3
        have z3 : V.frozen? ⟨S, 3, none⟩ = false := HX.out.frozen 3
        have c4 : V.cell? ⟨S, 4, none⟩ = some (.int .i64 0) := HX.out.cell 4
        have z4 : V.frozen? ⟨S, 4, none⟩ = false := HX.out.frozen 4
        have c5 : V.cell? ⟨S, 5, none⟩ = some (.bool false) := HX.out.cell 5
        have z5 : V.frozen? ⟨S, 5, none⟩ = false := HX.out.frozen 5
        go_wp2_with fail
        have hbx : BoxN ((((((V.setCell ⟨S, 0, none⟩ (.int .u64 x0)).setCell ⟨S, 1, none⟩ (.int .u64 x1)).setCell ⟨S, 2, none⟩ (.int .u64 x2)).setCell ⟨S, 3, none⟩ (.int .i64 (x3 : Int))).setCell ⟨S, 4, none⟩ (.int .i64 (x4 : Int))).setCell ⟨S, 5, none⟩ (.bool x5)) S #[.int .u64 x0, .int .u64 x1, .int .u64 x2, .int .i64 (x3 : Int), .int .i64 (x4 : Int), .bool x5] := ((((((HX.out.set 0 (.int .u64 x0)).set 1 (.int .u64 x1)).set 2 (.int .u64 x2)).set 3 (.int .i64 (x3 : Int))).set 4 (.int .i64 (x4 : Int))).set 5 (.bool x5))
        have HBF := Lib.hid (show Below W.heap.size W ((((((V.setCell ⟨S, 0, none⟩ (.int .u64 x0)).setCell ⟨S, 1, none⟩ (.int .u64 x1)).setCell ⟨S, 2, none⟩ (.int .u64 x2)).setCell ⟨S, 3, none⟩ (.int .i64 (x3 : Int))).setCell ⟨S, 4, none⟩ (.int .i64 (x4 : Int))).setCell ⟨S, 5, none⟩ (.bool x5)) from (below_set (below_set (below_set (below_set (below_set (below_set HB.out hSl (.int .u64 x0)) hSl (.int .u64 x1)) hSl (.int .u64 x2)) hSl (.int .i64 (x3 : Int))) hSl (.int .i64 (x4 : Int))) hSl (.bool x5)))
        obtain ⟨WF, hWF⟩ : ∃ W', ((((((V.setCell ⟨S, 0, none⟩ (.int .u64 x0)).setCell ⟨S, 1, none⟩ (.int .u64 x1)).setCell ⟨S, 2, none⟩ (.int .u64 x2)).setCell ⟨S, 3, none⟩ (.int .i64 (x3 : Int))).setCell ⟨S, 4, none⟩ (.int .i64 (x4 : Int))).setCell ⟨S, 5, none⟩ (.bool x5)) = W' := ⟨_, rfl⟩
        rw [hWF] at hbx HBF ⊢
        clear hWF
        have q0 : WF.cell? ⟨S, 0, none⟩ = some (.int .u64 x0) := hbx.cell 0
        have q1 : WF.cell? ⟨S, 1, none⟩ = some (.int .u64 x1) := hbx.cell 1
        have q2 : WF.cell? ⟨S, 2, none⟩ = some (.int .u64 x2) := hbx.cell 2
        have q3 : WF.cell? ⟨S, 3, none⟩ = some (.int .i64 (x3 : Int)) := hbx.cell 3
        have q4 : WF.cell? ⟨S, 4, none⟩ = some (.int .i64 (x4 : Int)) := hbx.cell 4
        have q5 : WF.cell? ⟨S, 5, none⟩ = some (.bool x5) := hbx.cell 5
        refine bodyPost_ret (v := .tuple #[.agg #[.int .u64 x0, .int .u64 x1, .int .u64 x2, .int .i64 (x3 : Int), .int .i64 (x4 : Int), .bool x5], .int .i64 0]) ?_ rfl ⟨by rw [HTY.out], HBF.out⟩
        simp [results, Tryz.results51, go_sem, q0, q1, q2, q3, q4, q5]
      · have hty : typeOf x4 = -1 := if_neg h64
        have h64i : ¬ (x4 : Int) < 64 := by omega
        have HTY := Lib.hid hty
        clear hty
        go_upto_region 8 with fail
        clear hu25
        have y0 : U.cell? ⟨S + 1, 0, none⟩ = some (.int .u64 x0) := HY.out.cell 0
        have y1 : U.cell? ⟨S + 1, 1, none⟩ = some (.int .u64 x1) := HY.out.cell 1
        have y2 : U.cell? ⟨S + 1, 2, none⟩ = some (.int .u64 x2) := HY.out.cell 2
        have y3 : U.cell? ⟨S + 1, 3, none⟩ = some (.int .i64 (x3 : Int)) := HY.out.cell 3
        have y4 : U.cell? ⟨S + 1, 4, none⟩ = some (.int .i64 (-1)) := HY.out.cell 4
        have y5 : U.cell? ⟨S + 1, 5, none⟩ = some (.bool x5) := HY.out.cell 5
        have c0 : U.cell? ⟨S, 0, none⟩ = some (.int .u64 0) := HX.out.cell 0
        have z0 : U.frozen? ⟨S, 0, none⟩ = false := HX.out.frozen 0
        have c1 : U.cell? ⟨S, 1, none⟩ = some (.int .u64 0) := HX.out.cell 1
        have z1 : U.frozen? ⟨S, 1, none⟩ = false := HX.out.frozen 1
        have c2 : U.cell? ⟨S, 2, none⟩ = some (.int .u64 0) := HX.out.cell 2
        have z2 : U.frozen? ⟨S, 2, none⟩ = false := HX.out.frozen 2
        have c3 : U.cell? ⟨S, 3, none⟩ = some (.int .i64 0) := HX.out.cell 3
        have z3 : U.frozen? ⟨S, 3, none⟩ = false := HX.out.frozen 3
        have c4 : U.cell? ⟨S, 4, none⟩ = some (.int .i64 0) := HX.out.cell 4
        have z4 : U.frozen? ⟨S, 4, none⟩ = false := HX.out.frozen 4
        have c5 : U.cell? ⟨S, 5, none⟩ = some (.bool false) := HX.out.cell 5
        have z5 : U.frozen? ⟨S, 5, none⟩ = false := HX.out.frozen 5
        go_wp2_with fail
        have hbx : BoxN ((((((U.setCell ⟨S, 0, none⟩ (.int .u64 x0)).setCell ⟨S, 1, none⟩ (.int .u64 x1)).setCell ⟨S, 2, none⟩ (.int .u64 x2)).setCell ⟨S, 3, none⟩ (.int .i64 (x3 : Int))).setCell ⟨S, 4, none⟩ (.int .i64 (-1))).setCell ⟨S, 5, none⟩ (.bool x5)) S #[.int .u64 x0, .int .u64 x1, .int .u64 x2, .int .i64 (x3 : Int), .int .i64 (-1), .bool x5] := ((((((HX.out.set 0 (.int .u64 x0)).set 1 (.int .u64 x1)).set 2 (.int .u64 x2)).set 3 (.int .i64 (x3 : Int))).set 4 (.int .i64 (-1))).set 5 (.bool x5))
        have HBF := Lib.hid (show Below W.heap.size W ((((((U.setCell ⟨S, 0, none⟩ (.int .u64 x0)).setCell ⟨S, 1, none⟩ (.int .u64 x1)).setCell ⟨S, 2, none⟩ (.int .u64 x2)).setCell ⟨S, 3, none⟩ (.int .i64 (x3 : Int))).setCell ⟨S, 4, none⟩ (.int .i64 (-1))).setCell ⟨S, 5, none⟩ (.bool x5)) from (below_set (below_set (below_set (below_set (below_set (below_set HB.out hSl (.int .u64 x0)) hSl (.int .u64 x1)) hSl (.int .u64 x2)) hSl (.int .i64 (x3 : Int))) hSl (.int .i64 (-1))) hSl (.bool x5)))
        obtain ⟨WF, hWF⟩ : ∃ W', ((((((U.setCell ⟨S, 0, none⟩ (.int .u64 x0)).setCell ⟨S, 1, none⟩ (.int .u64 x1)).setCell ⟨S, 2, none⟩ (.int .u64 x2)).setCell ⟨S, 3, none⟩ (.int .i64 (x3 : Int))).setCell ⟨S, 4, none⟩ (.int .i64 (-1))).setCell ⟨S, 5, none⟩ (.bool x5)) = W' := ⟨_, rfl⟩
        rw [hWF] at hbx HBF ⊢
        clear hWF
        have q0 : WF.cell? ⟨S, 0, none⟩ = some (.int .u64 x0) := hbx.cell 0
        have q1 : WF.cell? ⟨S, 1, none⟩ = some (.int .u64 x1) := hbx.cell 1
        have q2 : WF.cell? ⟨S, 2, none⟩ = some (.int .u64 x2) := hbx.cell 2
        have q3 : WF.cell? ⟨S, 3, none⟩ = some (.int .i64 (x3 : Int)) := hbx.cell 3
        have q4 : WF.cell? ⟨S, 4, none⟩ = some (.int .i64 (-1)) := hbx.cell 4
        have q5 : WF.cell? ⟨S, 5, none⟩ = some (.bool x5) := hbx.cell 5
        refine bodyPost_ret (v := .tuple #[.agg #[.int .u64 x0, .int .u64 x1, .int .u64 x2, .int .i64 (x3 : Int), .int .i64 (-1), .bool x5], .int .i64 0]) ?_ rfl ⟨by rw [HTY.out], HBF.out⟩
        simp [results, Tryz.results51, go_sem, q0, q1, q2, q3, q4, q5]
  · have hl : loadC m a = (noCp, spotE m a) := by unfold loadC; rw [if_neg he]
    rw [hl]
    rw [hv] at HP
    obtain ⟨e1, he1⟩ : ∃ e, spotE m a = e := ⟨_, rfl⟩
    rw [he1] at HP he ⊢
    have hcap : (capC noCp).toArray = #[.int .u64 0, .int .u64 0, .int .u64 0, .int .i64 0, .int .i64 0, .bool false] := rfl
    rw [hcap]
    have hSl : W.heap.size ≤ S := by omega
    clear hl hv h hM1 he1 hcap
    go_enter Tryz.func51, Tryz.ntmps51
    go_upto_region 1 with fail
    go_wp2_with fail
    refine HP.out.mono ?_; rintro e W0 ⟨rfl, rfl⟩
    clear hS hW1 hz1
    have c0 : W1.cell? ⟨S, 0, none⟩ = some (.int .u64 0) := HX.out.cell 0
    have z0 : W1.frozen? ⟨S, 0, none⟩ = false := HX.out.frozen 0
    have c1 : W1.cell? ⟨S, 1, none⟩ = some (.int .u64 0) := HX.out.cell 1
    have z1 : W1.frozen? ⟨S, 1, none⟩ = false := HX.out.frozen 1
    have c2 : W1.cell? ⟨S, 2, none⟩ = some (.int .u64 0) := HX.out.cell 2
    have z2 : W1.frozen? ⟨S, 2, none⟩ = false := HX.out.frozen 2
    have c3 : W1.cell? ⟨S, 3, none⟩ = some (.int .i64 0) := HX.out.cell 3
    have z3 : W1.frozen? ⟨S, 3, none⟩ = false := HX.out.frozen 3
    have c4 : W1.cell? ⟨S, 4, none⟩ = some (.int .i64 0) := HX.out.cell 4
    have z4 : W1.frozen? ⟨S, 4, none⟩ = false := HX.out.frozen 4
    have c5 : W1.cell? ⟨S, 5, none⟩ = some (.bool false) := HX.out.cell 5
    have z5 : W1.frozen? ⟨S, 5, none⟩ = false := HX.out.frozen 5
    go_wp2_with fail
    have hbx : BoxN ((((((W1.setCell ⟨S, 0, none⟩ (.int .u64 0)).setCell ⟨S, 1, none⟩ (.int .u64 0)).setCell ⟨S, 2, none⟩ (.int .u64 0)).setCell ⟨S, 3, none⟩ (.int .i64 0)).setCell ⟨S, 4, none⟩ (.int .i64 0)).setCell ⟨S, 5, none⟩ (.bool false)) S #[.int .u64 0, .int .u64 0, .int .u64 0, .int .i64 0, .int .i64 0, .bool false] := ((((((HX.out.set 0 (.int .u64 0)).set 1 (.int .u64 0)).set 2 (.int .u64 0)).set 3 (.int .i64 0)).set 4 (.int .i64 0)).set 5 (.bool false))
    have HBF := Lib.hid (show Below W.heap.size W ((((((W1.setCell ⟨S, 0, none⟩ (.int .u64 0)).setCell ⟨S, 1, none⟩ (.int .u64 0)).setCell ⟨S, 2, none⟩ (.int .u64 0)).setCell ⟨S, 3, none⟩ (.int .i64 0)).setCell ⟨S, 4, none⟩ (.int .i64 0)).setCell ⟨S, 5, none⟩ (.bool false)) from (below_set (below_set (below_set (below_set (below_set (below_set HB.out hSl (.int .u64 0)) hSl (.int .u64 0)) hSl (.int .u64 0)) hSl (.int .i64 0)) hSl (.int .i64 0)) hSl (.bool false)))
    obtain ⟨WF, hWF⟩ : ∃ W', ((((((W1.setCell ⟨S, 0, none⟩ (.int .u64 0)).setCell ⟨S, 1, none⟩ (.int .u64 0)).setCell ⟨S, 2, none⟩ (.int .u64 0)).setCell ⟨S, 3, none⟩ (.int .i64 0)).setCell ⟨S, 4, none⟩ (.int .i64 0)).setCell ⟨S, 5, none⟩ (.bool false)) = W' := ⟨_, rfl⟩
    rw [hWF] at hbx HBF ⊢
    clear hWF
    have q0 : WF.cell? ⟨S, 0, none⟩ = some (.int .u64 0) := hbx.cell 0
    have q1 : WF.cell? ⟨S, 1, none⟩ = some (.int .u64 0) := hbx.cell 1
    have q2 : WF.cell? ⟨S, 2, none⟩ = some (.int .u64 0) := hbx.cell 2
    have q3 : WF.cell? ⟨S, 3, none⟩ = some (.int .i64 0) := hbx.cell 3
    have q4 : WF.cell? ⟨S, 4, none⟩ = some (.int .i64 0) := hbx.cell 4
    have q5 : WF.cell? ⟨S, 5, none⟩ = some (.bool false) := hbx.cell 5
    refine bodyPost_ret (v := .tuple #[.agg #[.int .u64 0, .int .u64 0, .int .u64 0, .int .i64 0, .int .i64 0, .bool false], .int .i64 e1]) ?_ rfl ⟨rfl, HBF.out⟩
    simp [results, Tryz.results51, go_sem, q0, q1, q2, q3, q4, q5]
end Go.Proofs.YtegoddghfjfibaaGreatDoor

namespace Go.Proofs.YtegoddghfjfibaaGreatDoor
set_option linter.unusedVariables false
set_option linter.unusedSimpArgs false
open Go.Joins Go.ChangeShapes Go.WideShapes Go.ChangeAt Go.RowKit Go.Deep

theorem boxN_setCells (l : List Nat) : ∀ (w : World) (q o : Nat) (b : Nat → Nat) (t : Nat → Bool), BoxN w q (pgC b t).toArray → o + l.length ≤ 256 →
    BoxN (w.setCells q o (u8s l)) q (pgC (updB b o l) t).toArray ∧ KP w.heap.size (· = q) w (w.setCells q o (u8s l)) := by
  induction l with
  | nil =>
    intro w q o b t h _
    refine ⟨?_, KP.refl _ _ _⟩
    rw [show pgC (updB b o []) t = pgC b t from pgC_ext (fun j _ => by unfold updB; rw [dif_neg (by simp)]) (fun _ _ => rfl)]
    exact h
  | cons x r ih =>
    intro w q o b t h ho
    rw [List.length_cons] at ho
    have h1 := h.set o (.int .u8 (x : Int))
    rw [pgC_setBy b t o x (by omega)] at h1
    obtain ⟨h2, h3⟩ := ih (w.setCell ⟨q, o, none⟩ (.int .u8 (x : Int))) q (o + 1) _ t h1 (by omega)
    have hsz : (w.setCell ⟨q, o, none⟩ (.int .u8 (x : Int))).heap.size = w.heap.size := by simp [World.setCell]
    refine ⟨?_, (KP.set1 w q o (.int .u8 (x : Int))).trans (h3.mono (by rw [hsz]; exact Nat.le_refl _) (fun _ _ e => e))⟩
    rw [show pgC (updB b o (x :: r)) t = pgC (updB (updB b o [x]) (o + 1) r) t from pgC_ext (fun j _ => by
      unfold updB
      by_cases c1 : o + 1 ≤ j ∧ j < o + 1 + r.length
      · rw [dif_pos c1, dif_pos (by rw [List.length_cons]; omega)]
        obtain ⟨k, rfl⟩ : ∃ k, j = o + 1 + k := ⟨j - (o + 1), by omega⟩
        simp only [show o + 1 + k - (o + 1) = k by omega, show o + 1 + k - o = k + 1 by omega, List.getElem_cons_succ]
      · rw [dif_neg c1]
        by_cases c2 : j = o
        · subst c2
          rw [dif_pos (by rw [List.length_cons]; omega), dif_pos (by simp)]
          simp
        · rw [dif_neg (by rw [List.length_cons]; omega), dif_neg (by simp; omega)]) (fun _ _ => rfl)]
    exact h2
theorem run_clearB (w : World) (ty : TypeId) (q o c : Nat) (b : Nat → Nat) (t : Nat → Bool) (h : BoxN w q (pgC b t).toArray) (ho : o + 32 ≤ 256) :
    ∃ w', (Builtin.clear_ #[42] ty #[.slice (some ⟨q, o, none⟩) 32 c]).run Tryz.prog w = .ok (.tuple #[]) w' ∧ BoxN w' q (pgC (updB b o (List.replicate 32 0)) t).toArray ∧ KP w.heap.size (· = q) w w' := by
  have hr := Lib.run_clear_slice (P := Tryz.prog) w 42 5 ty (.int .u8 0) Tryz.underlying42 (fun w => by kernel_rfl) rfl rfl q o 32 c (by decide)
    (fun j hj => by rw [h.cell, List.getElem?_toArray, pgC_by _ _ _ (by omega)]; rfl) (fun j _ => h.frozen _)
  have he : List.replicate 32 (Value.int .u8 0) = u8s (List.replicate 32 0) := rfl
  rw [he] at hr
  obtain ⟨h1, h2⟩ := boxN_setCells (List.replicate 32 0) w q o b t h (by simpa using ho)
  exact ⟨_, hr, h1, h2⟩
theorem updB_updB (b : Nat → Nat) (i k : Nat) (l l' : List Nat) (h : k + l'.length ≤ l.length) : updB (updB b i l) (i + k) l' = updB b i (splice l k l') := by
  have hl : (splice l k l').length = l.length := length_splice l k l' h
  funext j
  unfold updB
  by_cases c1 : i + k ≤ j ∧ j < i + k + l'.length
  · rw [dif_pos c1, dif_pos (by rw [hl]; omega)]
    have h2 := splice_at l k l' h (j - i)
    rw [if_pos (by omega), List.getElem?_eq_getElem (by rw [hl]; omega), List.getElem?_eq_getElem (by omega)] at h2
    have h3 := Option.some.inj h2
    rw [h3]
    congr 1
    omega
  · rw [dif_neg c1]
    by_cases c2 : i ≤ j ∧ j < i + l.length
    · rw [dif_pos c2, dif_pos (by rw [hl]; exact c2)]
      have h2 := splice_at l k l' h (j - i)
      rw [if_neg (by omega), List.getElem?_eq_getElem (by rw [hl]; omega), List.getElem?_eq_getElem (by omega)] at h2
      exact (Option.some.inj h2).symm
    · rw [dif_neg c2, dif_neg (by rw [hl]; exact c2)]
theorem l8 (w : Nat) : littleN w 8 = [byteN w 0, byteN w 1, byteN w 2, byteN w 3, byteN w 4, byteN w 5, byteN w 6, byteN w 7] := rfl
/-- the bytes that are left behind all that is written -/
theorem cap_bytes (b : Nat → Nat) (i : Nat) (x y z p u v : Nat) : updB (updB (updB (updB (updB (updB b i (List.replicate 32 0)) i (littleN x 8)) (i + 8) (littleN y 8)) (i + 16) (littleN z 8)) (i + 24) [p]) (i + 25) [v] = updB b i (littleN x 8 ++ (littleN y 8 ++ (littleN z 8 ++ [p, v, 0, 0, 0, 0, 0, 0]))) := by
  have h0 : updB (updB b i (List.replicate 32 0)) i (littleN x 8) = updB b i (splice (List.replicate 32 0) 0 (littleN x 8)) := updB_updB b i 0 _ _ (by rw [littleN_length]; simp)
  rw [h0, updB_updB b i 8 _ _ (by rw [length_splice _ _ _ (by rw [littleN_length]; simp), littleN_length]; simp)]
  rw [updB_updB b i 16 _ _ (by rw [length_splice, length_splice] <;> simp [littleN_length, length_splice])]
  rw [updB_updB b i 24 _ _ (by rw [length_splice, length_splice, length_splice] <;> simp [littleN_length, length_splice])]
  rw [updB_updB b i 25 _ _ (by rw [length_splice, length_splice, length_splice, length_splice] <;> simp [l8, splice])]
  rw [l8, l8, l8]
  rfl
theorem cap_bytes2 (b : Nat → Nat) (i u v : Nat) : updB (updB b i [u]) i [v] = updB b i [v] := by
  have := updB_updB b i 0 [u] [v] (by simp)
  exact this
theorem gr_one (P g x : Nat) (hg : g < 8) (hx : x < 8) : inGr (256 * P + 32 * g) 32 (8 * P + x) = decide (x = g) := by
  unfold inGr
  rw [Bool.eq_iff_iff]
  simp only [Bool.and_eq_true, decide_eq_true_eq]
  omega
theorem mks_wrL (m : Mm) (P g : Nat) (c : Cp) (y : Nat) : y ∈ (wrL m (256 * P + 32 * g) (capB c)).mks ↔ y ∈ m.mks ∧ inGr (256 * P + 32 * g) 32 y = false := by
  have hl : capB c ≠ [] := fun e => by have := capB_len c; rw [e] at this; simp at this
  rw [wrL_mk _ _ _ hl, List.mem_filter, capB_len]
  simp
theorem tagP_mks (m : Mm) (g : Nat) : (tagP m g).mks = ins g m.mks := rfl
attribute [local irreducible] wrL capB
/-- a page in which a capability was stored -/
theorem page_putC (m : Mm) (P g : Nat) (c : Cp) (hg : g < 8) : pageC (putC m (256 * P + 32 * g) c) P = pgC (updB (fun j => m.by_ (256 * P + j)) (32 * g) (capB c)) (updT (fun i => decide (8 * P + i ∈ m.mks)) g c.g) := by
  have hl : capB c ≠ [] := fun e => by have := capB_len c; rw [e] at this; simp at this
  have h1 := page_wrL m P (32 * g) (capB c) hl (by rw [capB_len]; omega)
  have h32 : (256 * P + 32 * g) / 32 = 8 * P + g := by omega
  have hb : ∀ j, j < 256 → (putC m (256 * P + 32 * g) c).by_ (256 * P + j) = updB (fun j => m.by_ (256 * P + j)) (32 * g) (capB c) j := fun j hj => by
    have h3 : (wrL m (256 * P + 32 * g) (capB c)).by_ (256 * P + j) = updB (fun j => m.by_ (256 * P + j)) (32 * g) (capB c) j := by
      have h4 := congrArg (fun l => l[j]?) h1
      simp only [pageC_by _ _ _ hj, pgC_by _ _ _ hj, Option.some.injEq, Value.int.injEq, true_and] at h4
      exact Int.ofNat.inj h4
    unfold putC
    split
    · exact h3
    · exact h3
  rw [pageC_eq]
  refine pgC_ext hb (fun x hx => ?_)
  have hgr := gr_one P g x hg hx
  have hmk := mks_wrL m P g c (8 * P + x)
  rw [hgr] at hmk
  clear hb h1 hgr
  unfold updT putC
  cases hc : c.g with
  | true =>
    rw [if_pos rfl]
    rw [tagP_mks, h32]
    by_cases e : x = g
    · rw [if_pos e, decide_eq_true ((mem_ins _ _ _).2 (Or.inl (by rw [e])))]
    · rw [if_neg e]
      rw [decide_eq_false e] at hmk
      refine decide_eq_decide.2 ?_
      rw [mem_ins, hmk]
      constructor
      · rintro (h3 | h3)
        · exact absurd (Nat.add_left_cancel h3) e
        · exact h3.1
      · intro h3; exact Or.inr ⟨h3, rfl⟩
  | false =>
    rw [if_neg (by decide)]
    by_cases e : x = g
    · rw [if_pos e]
      rw [decide_eq_true e] at hmk
      exact decide_eq_false (fun h3 => by have := (hmk.1 h3).2; cases this)
    · rw [if_neg e]
      rw [decide_eq_false e] at hmk
      exact decide_eq_decide.2 ⟨fun h3 => (hmk.1 h3).1, fun h3 => hmk.2 ⟨h3, rfl⟩⟩
theorem page_putC_other (m : Mm) (P g : Nat) (c : Cp) (hg : g < 8) {p : Nat} (hp : p ≠ P) : pageC (putC m (256 * P + 32 * g) c) p = pageC m p := by
  have hl : capB c ≠ [] := fun e => by have := capB_len c; rw [e] at this; simp at this
  have h1 := page_other m P (32 * g) p (capB c) hl (by rw [capB_len]; omega) hp
  have h32 : (256 * P + 32 * g) / 32 = 8 * P + g := by omega
  unfold putC
  split
  · rw [← h1, pageC_eq, pageC_eq]
    refine pgC_ext (fun _ _ => rfl) (fun x hx => decide_eq_decide.2 ?_)
    rw [tagP_mks, h32, mem_ins]
    constructor
    · rintro (h3 | h3)
      · exfalso; clear h1 h32 hl; omega
      · exact h3
    · exact Or.inr
  · exact h1
theorem okm_putC {m : Mm} (h : Okm m) (P g : Nat) (c : Cp) (hg : g < 8) (hin : P ∈ m.pgs) : Okm (putC m (256 * P + 32 * g) c) ∧ (putC m (256 * P + 32 * g) c).pgs = m.pgs ∧ (putC m (256 * P + 32 * g) c).bud = m.bud := by
  have hd : ∀ i, i < 32 → (256 * P + 32 * g + i) / 256 = P := fun i hi => by omega
  have hok := okm_wrL h (a := 256 * P + 32 * g) (l := capB c) (fun i hi => by rw [capB_len] at hi; rw [hd i hi]; exact hin) (capB_lt c)
  have hp := wrL_pgs m (256 * P + 32 * g) (capB c)
  have h32 : (256 * P + 32 * g) / 32 = 8 * P + g := by omega
  have h8 : (8 * P + g) / 8 = P := by omega
  unfold putC
  rw [h32]
  split
  · refine ⟨okm_tagP hok (fun e => ?_) (by rw [hp.1, h8]; exact hin), hp.1, hp.2⟩
    have := ((mks_wrL m P g c _).1 e).2
    rw [gr_one P g g hg hg, decide_eq_true rfl] at this
    cases this
  · exact ⟨hok, hp.1, hp.2⟩
end Go.Proofs.YtegoddghfjfibaaGreatDoor

namespace Go.Proofs.YtegoddghfjfibaaGreatDoor
set_option linter.unusedVariables false
set_option linter.unusedSimpArgs false
open Go.Joins Go.ChangeShapes Go.WideShapes Go.ChangeAt Go.RowKit Go.Deep

/-- a word's eight bytes are copied into a page -/
theorem copy_little (W : World) (ty : TypeId) (q o dl dc vc base : Nat) (va : Option Addr) (b : Nat → Nat) (t : Nat → Bool) (w : Nat) (hq : BoxN W q (pgC b t).toArray) (hown : W.ownsRow base 5 1 (.slice va 8 vc) 8 (u8s (littleN w 8))) (hb : q < base) (ho : o + 8 ≤ 256) (hdl : 8 ≤ dl) :
    ∃ w', (Builtin.copy_ #[42, 42] ty #[.slice (some ⟨q, o, none⟩) dl dc, .slice va 8 vc]).run Tryz.prog W = .ok (goInt 8) w' ∧ BoxN w' q (pgC (updB b o (littleN w 8)) t).toArray ∧ KP W.heap.size (· = q) W w' := by
  have hr := Rd.of_own hown
  obtain ⟨ab, ao, rfl, -, -⟩ := hr.2 (by decide)
  have hl : (u8s (littleN w 8)).length = 8 := by rw [u8s_length, littleN_length]
  obtain ⟨w', h1, h2, h3⟩ := run_copyB W ty q o dl dc ⟨ab, ao, none⟩ 8 vc (pgC b t) (u8s (littleN w 8)) hq (by rw [hl]; exact (Nat.min_eq_left hdl).symm) (rd_src hr) (by rw [hl, pgC_len]; omega) (u8s_one _)
  rw [hl] at h1
  rw [pgC_splice b t o (littleN w 8) (by rw [littleN_length]; exact ho)] at h2
  exact ⟨w', h1, h2, h3⟩
theorem little8 (x : Int) (W : World) (h0 : 0 ≤ x) (h1 : x < 18446744073709551616) :
    Calls Tryz.prog 79 #[.int .u64 x, .int .i64 8] W fun e w' => ∃ va vc, e = .returned (.slice va 8 vc) ∧ w'.ownsRow W.heap.size 5 1 (.slice va 8 vc) 8 (u8s (littleN x.toNat 8)) ∧ Below W.heap.size W w' := by
  refine (little_any x 8 W h0 h1).mono ?_
  rintro e w' ⟨v, rfl, hown, hb⟩
  have e1 : littleZ x 8 = littleN x.toNat 8 := by unfold littleZ; rw [if_neg (by decide)]; rfl
  rw [e1, littleN_length] at hown
  obtain ⟨va, vc, rfl, -⟩ := own_slice hown
  exact ⟨va, vc, rfl, hown, hb⟩
theorem copy_step {W1 W4 W5 : World} {q o dl dc vc : Nat} {va : Option Addr} {b : Nat → Nat} {t : Nat → Bool} {w : Nat} (ty : TypeId) (hq : BoxN W4 q (pgC b t).toArray) (hk : KP W1.heap.size (· = q) W1 W4) (hb : Below W4.heap.size W4 W5) (hown : W5.ownsRow W4.heap.size 5 1 (.slice va 8 vc) 8 (u8s (littleN w 8))) (ho : o + 8 ≤ 256) (hdl : 8 ≤ dl) :
    ∃ W6, (Builtin.copy_ #[42, 42] ty #[.slice (some ⟨q, o, none⟩) dl dc, .slice va 8 vc]).run Tryz.prog W5 = .ok (goInt 8) W6 ∧ BoxN W6 q (pgC (updB b o (littleN w 8)) t).toArray ∧ KP W1.heap.size (· = q) W1 W6 := by
  obtain ⟨W6, h1, h2, h3⟩ := copy_little W5 ty q o dl dc vc W4.heap.size va b t w (boxN_below hq hb) hown hq.lt ho hdl
  exact ⟨W6, h1, h2, (hk.below hb hk.size).trans (h3.mono (Nat.le_trans hk.size hb.size) (fun _ _ e => e))⟩
/-- a capability that there can be -/
structure FitC (c : Cp) : Prop where
  b0 : 0 ≤ c.b
  b1 : c.b < 18446744073709551616
  t0 : 0 ≤ c.t
  t1 : c.t < 18446744073709551616
  a0 : 0 ≤ c.a
  a1 : c.a < 18446744073709551616
set_option maxRecDepth 100000 in
set_option maxHeartbeats 4000000 in
theorem storeC_any (W : World) (M : Nat) (F : Nat → Prop) (m : Mm) (h : MemAt W M F m) (a : Nat) (c : Cp) (ha : a < 18446744073709551616) (hc : FitC c) :
    Calls Tryz.prog 38 #[.pointer (some ⟨M, 0, none⟩), .int .u64 (a : Int), .agg (capC c).toArray] W fun e W' => e = .returned (.int .i64 (storeC m a c).2) ∧ MemAt W' M F (storeC m a c).1 ∧ KP W.heap.size F W W' := by
  obtain ⟨B, D, pb, h⟩ := h
  obtain ⟨cb, ct, ca, cp, cy, cg⟩ := c
  obtain ⟨b0, b1, t0, t1, a0, a1⟩ := hc
  simp only at b0 b1 t0 t1 a0 a1
  have hcc : (capC ⟨cb, ct, ca, cp, cy, cg⟩).toArray = #[.int .u64 cb, .int .u64 ct, .int .u64 ca, .int .i64 cp, .int .i64 cy, .bool cg] := rfl
  rw [hcc]
  obtain ⟨S, hS⟩ : ∃ S, W.heap.size = S := ⟨_, rfl⟩
  obtain ⟨W1, hW1⟩ : ∃ W1, W.alloc (.cells #[.int .u64 cb, .int .u64 ct, .int .u64 ca, .int .i64 cp, .int .i64 cy, .bool cg] 24) = W1 := ⟨_, rfl⟩
  have HX : Hid (BoxN W1 S #[.int .u64 cb, .int .u64 ct, .int .u64 ca, .int .i64 cp, .int .i64 cy, .bool cg]) := Lib.hid (by rw [← hW1, ← hS]; exact BoxN.new W _ _)
  have hB : Below W.heap.size W W1 := by rw [← hW1]; exact bAlloc (Below.refl _ _) _
  have HK : Hid (KP W.heap.size F W W1) := Lib.hid ⟨hB.os, hB.tape, hB.output, hB.size, fun b hb _ => hB.block b hb⟩
  have hM1 := h.below hB
  have HP := Lib.hid (place_any W1 M B D pb F m hM1 a 32 ha (by decide) (by decide))
  simp only [Int.cast_ofNat_Int] at HP
  have hz1 : W1.heap.size = S + 1 := by rw [← hW1, size_alloc, hS]
  rcases spot_place pb m a with ⟨he, hal, hin, hv⟩ | ⟨he, hv⟩
  · have hl : storeC m a ⟨cb, ct, ca, cp, cy, cg⟩ = (putC m a ⟨cb, ct, ca, cp, cy, cg⟩, 0) := by unfold storeC; rw [if_pos he, Int.toNat_natCast]
    rw [hl]
    rw [hv] at HP
    obtain ⟨P, hP⟩ : ∃ P, a / 256 = P := ⟨_, rfl⟩
    obtain ⟨i, hi⟩ : ∃ i, a % 256 = i := ⟨_, rfl⟩
    obtain ⟨c, hc⟩ : ∃ c, i + c = 256 := ⟨256 - i, by omega⟩
    obtain ⟨g, hg⟩ : ∃ g, i / 32 = g := ⟨_, rfl⟩
    have hi32 : i = 32 * g := by omega
    have haP : a = 256 * P + 32 * g := by omega
    have hg8 : g < 8 := by omega
    have hi8 : 256 - i = c := by omega
    rw [hP] at HP hin
    rw [hi] at HP
    have hbx := hM1.pg _ hin
    rw [pageC_eq] at hbx
    obtain ⟨bb, hbb⟩ : ∃ f, (fun j => m.by_ (256 * P + j)) = f := ⟨_, rfl⟩
    obtain ⟨tt, htt⟩ : ∃ f, (fun i => decide (8 * P + i ∈ m.mks)) = f := ⟨_, rfl⟩
    rw [hbb, htt] at hbx
    obtain ⟨q, hq⟩ : ∃ q, pb P = q := ⟨_, rfl⟩
    have HQF : Hid (F q) := Lib.hid (by rw [← hq]; exact h.fp _ hin)
    rw [hq] at HP hbx
    have hqS : q < S := by rw [← hq, ← hS]; exact (h.pg _ hin).lt
    have HFIN : Hid (∀ W', BoxN W' q (pgC (updB bb i (capB ⟨cb, ct, ca, cp, cy, cg⟩)) (updT tt g cg)).toArray → KP W1.heap.size (· = q) W1 W' → MemAt W' M F (putC m a ⟨cb, ct, ca, cp, cy, cg⟩)) := Lib.hid (fun W' hb hk => by
      obtain ⟨k1, k2, k3⟩ := okm_putC h.ok P g ⟨cb, ct, ca, cp, cy, cg⟩ hg8 hin
      have e1 := page_putC m P g ⟨cb, ct, ca, cp, cy, cg⟩ hg8
      rw [← haP] at k1 k2 k3 e1
      rw [hbb, htt, ← hi32] at e1
      refine (hM1.turn hin (by rw [hq]; exact hk) _ k1 k2 k3 (by rw [hq, e1]; exact hb) (fun p hp => ?_)).at_
      rw [haP]
      exact page_putC_other m P g _ hg8 hp)
    have hsl := fun w => run_slA w q i 32 (by omega) (by omega)
    rw [hi8] at hsl
    have hs8 := fun w => run_cut8 w q i 8 32 c (by omega) (by omega) (by omega)
    have hs16 := fun w => run_cut8 w q i 16 32 c (by omega) (by omega) (by omega)
    simp only [Nat.reduceSub, Int.cast_ofNat_Int] at hsl hs8 hs16
    have w1 : IntKind.i64.wrap ((i : Int) + 32) = (i : Int) + 32 := by rw [IntKind.wrap_i64]; omega
    have e0 : (i : Int).tdiv 32 = (g : Int) := by rw [Int.tdiv_eq_ediv_of_nonneg (by omega)]; omega
    have e0' : (i : Int) / 32 = (g : Int) := by omega
    have wg : IntKind.i64.wrap (g : Int) = (g : Int) := IntWalk.i64_in _ (by omega)
    have g8 : (g : Int) < 8 := by omega
    have g0 : (0 : Int) ≤ (g : Int) := by omega
    have hi225 : i + 32 ≤ 256 := by omega
    have HL0 := Lib.hid (fun W => little8 cb W b0 b1)
    have HL1 := Lib.hid (fun W => little8 ct W t0 t1)
    have HL2 := Lib.hid (fun W => little8 ca W a0 a1)
    have hqs : q < W1.heap.size := by omega
    obtain ⟨W2, hclr, hbx2, hk2⟩ := run_clearB W1 0 q i c bb tt hbx hi225
    have HQ := Lib.hid hbx2
    have HKQ := Lib.hid hk2
    have HXX := Lib.hid (HX.out.kp hk2 HX.out.lt (by omega))
    have cS0 : W2.cell? ⟨S, 0, none⟩ = some (.int .u64 cb) := HXX.out.cell 0
    clear hl hv he h hM1 hi hc hg hi8 hbx hbx2 hk2 hq hin hal hcc hB hP haP hi32 hbb htt b0 b1 t0 t1 a0 a1
    go_enter Tryz.func38, Tryz.ntmps38
    go_upto_region 1 with fail
    go_wp2_with fail
    refine HP.out.mono ?_; rintro e W0 ⟨rfl, rfl⟩
    go_upto_region 6 with fail
    go_wp2_with fail
    refine (HL0.out W2).mono ?_; rintro e W3 ⟨va, vc, rfl, hown, hb⟩
    obtain ⟨U0, hrun, hbx, hkk⟩ := copy_step (dl := 32) (dc := c) (o := i) 3 HQ.out HKQ.out hb hown (by omega) (by decide)
    have HQ := Lib.hid hbx
    have HKQ := Lib.hid hkk
    have cS1 : U0.cell? ⟨S, 1, none⟩ = some (.int .u64 ct) := (HX.out.kp hkk HX.out.lt (by omega)).cell 1
    clear hown hb hbx hkk cS0
    go_upto_region 7 with fail
    go_region_law (first
      | (go_simp; go_at_call 79; refine (HL1.out _).mono ?_; rintro e V1 ⟨va, vc, rfl, hown, hb⟩; obtain ⟨U1, hrun, hbx, hkk⟩ := copy_step (W4 := U0.drew) (dl := 24) (dc := c - 8) (o := i + 8) 3 HQ.out HKQ.out.drew hb hown (by omega) (by decide); have HQ1 := Lib.hid hbx; have HKQ1 := Lib.hid hkk; clear hown hb hbx hkk; dsimp only))
    all_goals
      have HQ := HQ1
      have HKQ := HKQ1
      have cS2 : U1.cell? ⟨S, 2, none⟩ = some (.int .u64 ca) := (HX.out.kp HKQ1.out HX.out.lt (by omega)).cell 2
      clear HQ1 HKQ1 cS1 hrun
      go_upto_region 8 with fail
      go_region_law (first
        | (go_simp; go_at_call 79; refine (HL2.out _).mono ?_; rintro e V2 ⟨va, vc, rfl, hown, hb⟩; obtain ⟨U2, hrun, hbx, hkk⟩ := copy_step (W4 := U1.drew) (dl := 16) (dc := c - 16) (o := i + 16) 3 HQ.out HKQ.out.drew hb hown (by omega) (by decide); have HQ2 := Lib.hid hbx; have HKQ2 := Lib.hid hkk; clear hown hb hbx hkk; dsimp only))
      all_goals
        have HQ := HQ2
        have HKQ := HKQ2
        have cS3 : U2.cell? ⟨S, 3, none⟩ = some (.int .i64 cp) := (HX.out.kp HKQ2.out HX.out.lt (by omega)).cell 3
        clear HQ2 HKQ2 cS2 hrun
        obtain ⟨pr, hpr⟩ : ∃ n : Nat, (cp % 256).toNat = n := ⟨_, rfl⟩
        have hprl : pr < 256 := by omega
        have wp : IntKind.u8.wrap cp = (pr : Int) := by rw [IntKind.wrap_u8]; omega
        obtain ⟨ty, hty⟩ : ∃ n : Nat, (cy % 256).toNat = n := ⟨_, rfl⟩
        have wy : IntKind.u8.wrap cy = (ty : Int) := by rw [IntKind.wrap_u8]; omega
        have HPR := Lib.hid hpr
        have HTY := Lib.hid hty
        clear hpr hty
        obtain ⟨b2, hb2⟩ : ∃ f, updB (updB (updB (updB bb i (List.replicate 32 0)) i (littleN cb.toNat 8)) (i + 8) (littleN ct.toNat 8)) (i + 16) (littleN ca.toNat 8) = f := ⟨_, rfl⟩
        rw [hb2] at HQ
        have HB2 := Lib.hid hb2
        clear hb2
        have c24 : U2.cell? ⟨q, i + 24, none⟩ = some (.int .u8 (b2 (i + 24) : Int)) := by rw [HQ.out.cell, List.getElem?_toArray, pgC_by _ _ _ (by omega)]
        have z24 : U2.frozen? ⟨q, i + 24, none⟩ = false := HQ.out.frozen _
        go_upto_region 10 with fail
        have HQ := Lib.hid (show BoxN (U2.setCell ⟨q, i + 24, none⟩ (.int .u8 (pr : Int))) q (pgC (updB b2 (i + 24) [pr]) tt).toArray by have h1 := HQ.out.set (i + 24) (.int .u8 (pr : Int)); rwa [pgC_setBy _ _ _ _ (by omega)] at h1)
        have HKQ := Lib.hid (HKQ.out.set ⟨q, i + 24, none⟩ (Or.inr rfl) (.int .u8 (pr : Int)))
        obtain ⟨U3, hU3⟩ : ∃ W', U2.setCell ⟨q, i + 24, none⟩ (.int .u8 (pr : Int)) = W' := ⟨_, rfl⟩
        rw [hU3] at HQ HKQ ⊢
        clear hU3 c24 z24 cS3
        have c25 : U3.cell? ⟨q, i + 25, none⟩ = some (.int .u8 (updB b2 (i + 24) [pr] (i + 25) : Int)) := by rw [HQ.out.cell, List.getElem?_toArray, pgC_by _ _ _ (by omega)]
        have z25 : U3.frozen? ⟨q, i + 25, none⟩ = false := HQ.out.frozen _
        go_upto_region 11 with fail
        have HQ := Lib.hid (show BoxN (U3.setCell ⟨q, i + 25, none⟩ (.int .u8 255)) q (pgC (updB (updB b2 (i + 24) [pr]) (i + 25) [255]) tt).toArray by have h1 := HQ.out.set (i + 25) (.int .u8 ((255 : Nat) : Int)); rw [pgC_setBy _ _ _ _ (by omega)] at h1; exact h1)
        have HKQ := Lib.hid (HKQ.out.set ⟨q, i + 25, none⟩ (Or.inr rfl) (.int .u8 255))
        obtain ⟨U4, hU4⟩ : ∃ W', U3.setCell ⟨q, i + 25, none⟩ (.int .u8 255) = W' := ⟨_, rfl⟩
        rw [hU4] at HQ HKQ ⊢
        clear hU4 c25 z25
        have cS4 : U4.cell? ⟨S, 4, none⟩ = some (.int .i64 cy) := (HX.out.kp HKQ.out HX.out.lt (by omega)).cell 4
        by_cases hcy : 0 ≤ cy
        · have c25 : U4.cell? ⟨q, i + 25, none⟩ = some (.int .u8 (updB (updB b2 (i + 24) [pr]) (i + 25) [255] (i + 25) : Int)) := by rw [HQ.out.cell, List.getElem?_toArray, pgC_by _ _ _ (by omega)]
          have z25 : U4.frozen? ⟨q, i + 25, none⟩ = false := HQ.out.frozen _
          have HCB : Hid (updB (updB (updB b2 (i + 24) [pr]) (i + 25) [255]) (i + 25) [ty] = updB bb i (capB ⟨cb, ct, ca, cp, cy, cg⟩)) := Lib.hid (by
            rw [cap_bytes2, ← HB2.out, cap_bytes (u := 0)]
            unfold capB typeB
            rw [if_pos hcy, HPR.out, HTY.out])
          go_upto_region 13 with fail
          have HQ := Lib.hid (show BoxN (U4.setCell ⟨q, i + 25, none⟩ (.int .u8 (ty : Int))) q (pgC (updB (updB (updB b2 (i + 24) [pr]) (i + 25) [255]) (i + 25) [ty]) tt).toArray by have h1 := HQ.out.set (i + 25) (.int .u8 (ty : Int)); rwa [pgC_setBy _ _ _ _ (by omega)] at h1)
          have HKQ := Lib.hid (HKQ.out.set ⟨q, i + 25, none⟩ (Or.inr rfl) (.int .u8 (ty : Int)))
          obtain ⟨U5, hU5⟩ : ∃ W', U4.setCell ⟨q, i + 25, none⟩ (.int .u8 (ty : Int)) = W' := ⟨_, rfl⟩
          rw [hU5] at HQ HKQ ⊢
          clear hU5 c25 z25 cS4
          have HKQ := Lib.hid (show KP W1.heap.size (· = q) W1 U5 from HKQ.out)
          have cS5 : U5.cell? ⟨S, 5, none⟩ = some (.bool cg) := (HX.out.kp HKQ.out HX.out.lt (by omega)).cell 5
          have ctg : U5.cell? ⟨q, 256 + g, none⟩ = some (.bool (tt g)) := by rw [HQ.out.cell, List.getElem?_toArray, pgC_tag _ _ _ hg8]
          have ztg : U5.frozen? ⟨q, 256 + g, none⟩ = false := HQ.out.frozen _
          have HQF2 : Hid (BoxN (U5.drew.setCell ⟨q, 256 + g, none⟩ (.bool cg)) q (pgC (updB bb i (capB ⟨cb, ct, ca, cp, cy, cg⟩)) (updT tt g cg)).toArray) := Lib.hid (by
            have h1 := BoxN.set (W := U5.drew) HQ.out (256 + g) (.bool cg)
            rw [pgC_setTag _ _ _ _ hg8] at h1
            rw [HCB.out] at h1
            exact h1)
          have HKF2 := Lib.hid (HKQ.out.drew.set ⟨q, 256 + g, none⟩ (Or.inr rfl) (.bool cg))
          go_region_law (fail)
          all_goals
            go_wp2_with fail
            go_ret
            have hfi := HK.out.trans (HKF2.out.mono HK.out.size (fun b _ e => by rw [show b = q from e]; exact HQF.out))
            first
              | exact ⟨rfl, HFIN.out _ HQF2.out HKF2.out, hfi⟩
              | (rw [hS] at hfi; exact ⟨rfl, HFIN.out _ HQF2.out HKF2.out, hfi⟩)
        · have HCB : Hid (updB (updB b2 (i + 24) [pr]) (i + 25) [255] = updB bb i (capB ⟨cb, ct, ca, cp, cy, cg⟩)) := Lib.hid (by
            rw [← HB2.out, cap_bytes (u := 0)]
            unfold capB typeB
            rw [if_neg hcy, HPR.out])
          go_upto_region 13 with fail
          clear cS4
          have HKQ := Lib.hid (show KP W1.heap.size (· = q) W1 U4 from HKQ.out)
          have cS5 : U4.cell? ⟨S, 5, none⟩ = some (.bool cg) := (HX.out.kp HKQ.out HX.out.lt (by omega)).cell 5
          have ctg : U4.cell? ⟨q, 256 + g, none⟩ = some (.bool (tt g)) := by rw [HQ.out.cell, List.getElem?_toArray, pgC_tag _ _ _ hg8]
          have ztg : U4.frozen? ⟨q, 256 + g, none⟩ = false := HQ.out.frozen _
          have HQF2 : Hid (BoxN (U4.drew.setCell ⟨q, 256 + g, none⟩ (.bool cg)) q (pgC (updB bb i (capB ⟨cb, ct, ca, cp, cy, cg⟩)) (updT tt g cg)).toArray) := Lib.hid (by
            have h1 := BoxN.set (W := U4.drew) HQ.out (256 + g) (.bool cg)
            rw [pgC_setTag _ _ _ _ hg8] at h1
            rw [HCB.out] at h1
            exact h1)
          have HKF2 := Lib.hid (HKQ.out.drew.set ⟨q, 256 + g, none⟩ (Or.inr rfl) (.bool cg))
          go_region_law (fail)
          all_goals
            go_wp2_with fail
            go_ret
            have hfi := HK.out.trans (HKF2.out.mono HK.out.size (fun b _ e => by rw [show b = q from e]; exact HQF.out))
            first
              | exact ⟨rfl, HFIN.out _ HQF2.out HKF2.out, hfi⟩
              | (rw [hS] at hfi; exact ⟨rfl, HFIN.out _ HQF2.out HKF2.out, hfi⟩)
  · have hl : storeC m a ⟨cb, ct, ca, cp, cy, cg⟩ = (m, spotE m a) := by unfold storeC; rw [if_neg he]
    rw [hl]
    rw [hv] at HP
    obtain ⟨e1, he1⟩ : ∃ e, spotE m a = e := ⟨_, rfl⟩
    rw [he1] at HP he ⊢
    have HM := Lib.hid hM1.at_
    clear hl hv h hM1 he1 hcc hB
    go_enter Tryz.func38, Tryz.ntmps38
    go_upto_region 1 with fail
    go_wp2_with fail
    refine HP.out.mono ?_; rintro e W0 ⟨rfl, rfl⟩
    go_wp2_with fail
    go_ret
    exact ⟨rfl, HM.out, HK.out⟩
end Go.Proofs.YtegoddghfjfibaaGreatDoor


