/- The program's memory: a capability is loaded: contract. -/
import Derived.Test.YtgfkjlknkbdjiaaTmL
namespace Go.Proofs.Ytgfkjlknkbdjiaa
set_option linter.unusedVariables false
set_option linter.unusedSimpArgs false
open Go.Joins Go.ChangeShapes Go.WideShapes Go.ChangeAt Go.RowKit Go.Deep

theorem spot_place (pb : Nat → Nat) (m : Mm) (a : Nat) : (spotE m a = 0 ∧ a % 32 = 0 ∧ a / 256 ∈ m.pgs ∧ placeV pb m a 32 = .tuple #[.pointer (some ⟨pb (a / 256), 0, none⟩), .int .i64 ((a % 256 : Nat) : Int), .int .i64 0]) ∨
    (spotE m a ≠ 0 ∧ placeV pb m a 32 = .tuple #[.pointer none, .int .i64 0, .int .i64 (spotE m a)]) := by
  have hd : ((a : Int) / 256).toNat = a / 256 := by omega
  unfold spotE placeV isIn
  rw [hd]
  by_cases hal : a % 32 = 0
  · rw [if_neg (show ¬ ((a : Int) % 32 ≠ 0) by omega), if_neg (show ¬ (a % 32 ≠ 0) by omega)]
    by_cases hin : a / 256 ∈ m.pgs
    · left
      rw [if_pos hin, if_pos (decide_eq_true hin)]
      exact ⟨rfl, hal, hin, rfl⟩
    · right
      rw [if_neg hin, if_neg (by rw [decide_eq_false hin]; decide)]
      exact ⟨by decide, rfl⟩
  · right
    rw [if_pos (show (a : Int) % 32 ≠ 0 by omega), if_pos hal]
    exact ⟨by decide, rfl⟩
theorem below_set {w w' : World} (h : Below w.heap.size w w') {B j : Nat} (hB : w.heap.size ≤ B) (u : Value) : Below w.heap.size w (w'.setCell ⟨B, j, none⟩ u) := Below.setCell h (p := ⟨B, j, none⟩) hB u
theorem ofB_many (m : Mm) (a n : Nat) (h : 8 ≤ n) : ofB (manyB m a n) = ofB (manyB m a 8) := by
  unfold ofB
  obtain ⟨k, rfl⟩ : ∃ k, n = 8 + k := ⟨n - 8, by omega⟩
  rw [manyB_add, List.take_append_of_le_length (by rw [manyB_len]; exact Nat.le_refl _)]
theorem run_cut8 (w : World) (b i n m c : Nat) (hn : n ≤ m) (hc : m ≤ c) (hne : n < c) : (Instr.sliceAt 51 (.slice (some ⟨b, i, none⟩) m c) (some (.int .i64 (n : Int))) none none).run Try.prog w = .ok (.slice (some ⟨b, i + n, none⟩) (m - n) (c - n)) w := by
  rw [run_cutB w _ n m c hn hc]
  unfold cutA
  rw [if_neg (by omega)]
  simp [Addr.add]
set_option maxRecDepth 100000 in
set_option maxHeartbeats 2000000 in
theorem loadC_any (W : World) (M B : Nat) (D : DataW Unit) (pb : Nat → Nat) (F : Nat → Prop) (m : Mm) (h : MemO W M B D pb F m) (a : Nat) (ha : a < 18446744073709551616) :
    Calls Try.prog 20 #[.pointer (some ⟨M, 0, none⟩), .int .u64 (a : Int)] W fun e W' => e = .returned (.tuple #[.agg (capC (loadC m a).1).toArray, .int .i64 (loadC m a).2]) ∧ Below W.heap.size W W' := by
  obtain ⟨S, hS⟩ : ∃ S, W.heap.size = S := ⟨_, rfl⟩
  obtain ⟨W1, hW1⟩ : ∃ W1, W.alloc (.cells #[.int .u64 0, .int .u64 0, .int .u64 0, .int .i64 0, .int .i64 0, .bool false] 41) = W1 := ⟨_, rfl⟩
  have HX : Hid (BoxN W1 S #[.int .u64 0, .int .u64 0, .int .u64 0, .int .i64 0, .int .i64 0, .bool false]) := Lib.hid (by rw [← hW1, ← hS]; exact BoxN.new W _ _)
  have HB : Hid (Below W.heap.size W W1) := Lib.hid (by rw [← hW1]; exact bAlloc (Below.refl _ _) _)
  have hM1 := h.below HB.out
  have HP := Lib.hid (place_any W1 M B D pb F m hM1 a 32 ha (by decide) (by decide))
  simp only [Int.cast_ofNat_Int] at HP
  have hz1 : W1.heap.size = S + 1 := by rw [← hW1, size_alloc, hS]
  have HW1 := Lib.hid hW1
  have HS := Lib.hid hS
  have HZ1 := Lib.hid hz1
  rcases spot_place pb m a with ⟨he, hal, hin, hv⟩ | ⟨he, hv⟩
  · have hl : loadC m a = (capOf m a, 0) := by unfold loadC; rw [if_pos he, Int.toNat_natCast]
    rw [hl]
    rw [hv] at HP
    obtain ⟨i, hi⟩ : ∃ i, a % 256 = i := ⟨_, rfl⟩
    obtain ⟨c, hc⟩ : ∃ c, i + c = 256 := ⟨256 - i, by omega⟩
    obtain ⟨g, hg⟩ : ∃ g, i / 32 = g := ⟨_, rfl⟩
    have hi8 : 256 - i = c := by omega
    have hrd := hM1.rdB a 32 hin (by omega)
    have hrd8 := hM1.rdB (a + 8) 24 (by rw [show (a + 8) / 256 = a / 256 by omega]; exact hin) (by omega)
    have hrd16 := hM1.rdB (a + 16) 16 (by rw [show (a + 16) / 256 = a / 256 by omega]; exact hin) (by omega)
    rw [show (a + 8) / 256 = a / 256 by omega, show (a + 8) % 256 = i + 8 by omega] at hrd8
    rw [show (a + 16) / 256 = a / 256 by omega, show (a + 16) % 256 = i + 16 by omega] at hrd16
    rw [hi] at HP hrd
    have hbx := hM1.pg _ hin
    have hc24 : W1.cell? ⟨pb (a / 256), i + 24, none⟩ = some (.int .u8 (m.by_ (a + 24) : Int)) := by rw [hbx.cell, List.getElem?_toArray, pageC_by _ _ _ (by omega), show 256 * (a / 256) + (i + 24) = a + 24 by omega]
    have hc25 : W1.cell? ⟨pb (a / 256), i + 25, none⟩ = some (.int .u8 (m.by_ (a + 25) : Int)) := by rw [hbx.cell, List.getElem?_toArray, pageC_by _ _ _ (by omega), show 256 * (a / 256) + (i + 25) = a + 25 by omega]
    have hcg : W1.cell? ⟨pb (a / 256), 256 + g, none⟩ = some (.bool (decide (a / 32 ∈ m.mks))) := by rw [hbx.cell, List.getElem?_toArray, pageC_tag _ _ _ (by omega), show 8 * (a / 256) + g = a / 32 by omega]
    have hb24 := h.ok.by_ (a + 24)
    have hb25 := h.ok.by_ (a + 25)
    obtain ⟨q, hq⟩ : ∃ q, pb (a / 256) = q := ⟨_, rfl⟩
    have hqs : q < W1.heap.size := by rw [← hq]; exact hbx.lt
    rw [hq] at HP hrd hrd8 hrd16 hc24 hc25 hcg
    have HO0 := Lib.hid (fun (W' : World) (hb : Below W1.heap.size W1 W') => of_any (some ⟨q, i, none⟩) 32 c _ W' (hrd.below hb) (manyB_lt h.ok _ _) (by decide))
    have HO1 := Lib.hid (fun (W' : World) (hb : Below W1.heap.size W1 W') => of_any (some ⟨q, i + 8, none⟩) 24 (c - 8) _ W' (hrd8.below hb) (manyB_lt h.ok _ _) (by decide))
    have HO2 := Lib.hid (fun (W' : World) (hb : Below W1.heap.size W1 W') => of_any (some ⟨q, i + 16, none⟩) 16 (c - 16) _ W' (hrd16.below hb) (manyB_lt h.ok _ _) (by decide))
    rw [ofB_many m a 32 (by decide)] at HO0
    rw [ofB_many m (a + 8) 24 (by decide)] at HO1
    rw [ofB_many m (a + 16) 16 (by decide)] at HO2
    have hcap : (capC (capOf m a)).toArray = #[.int .u64 ((ofB (manyB m a 8) : Nat) : Int), .int .u64 ((ofB (manyB m (a + 8) 8) : Nat) : Int), .int .u64 ((ofB (manyB m (a + 16) 8) : Nat) : Int), .int .i64 (m.by_ (a + 24) : Int), .int .i64 (typeOf (m.by_ (a + 25))), .bool (decide (a / 32 ∈ m.mks))] := rfl
    rw [hcap]
    have hty : typeOf (m.by_ (a + 25)) = if m.by_ (a + 25) ≤ 63 then (m.by_ (a + 25) : Int) else -1 := rfl
    obtain ⟨x0, hx0⟩ : ∃ x, ((ofB (manyB m a 8) : Nat) : Int) = x := ⟨_, rfl⟩
    obtain ⟨x1, hx1⟩ : ∃ x, ((ofB (manyB m (a + 8) 8) : Nat) : Int) = x := ⟨_, rfl⟩
    obtain ⟨x2, hx2⟩ : ∃ x, ((ofB (manyB m (a + 16) 8) : Nat) : Int) = x := ⟨_, rfl⟩
    obtain ⟨x3, hx3⟩ : ∃ x, m.by_ (a + 24) = x := ⟨_, rfl⟩
    obtain ⟨x4, hx4⟩ : ∃ x, m.by_ (a + 25) = x := ⟨_, rfl⟩
    obtain ⟨x5, hx5⟩ : ∃ x, decide (a / 32 ∈ m.mks) = x := ⟨_, rfl⟩
    rw [hx0] at HO0
    rw [hx1] at HO1
    rw [hx2] at HO2
    rw [hx3] at hc24 hb24
    rw [hx4] at hc25 hb25
    rw [hx5] at hcg
    rw [hx4] at hty
    rw [hx0, hx1, hx2, hx3, hx4, hx5]
    have hsl := fun w => run_slA w q i 32 (by omega) (by omega)
    rw [hi8] at hsl
    have hs8 := fun w => run_cut8 w q i 8 32 c (by omega) (by omega) (by omega)
    have hs16 := fun w => run_cut8 w q i 16 32 c (by omega) (by omega) (by omega)
    simp only [Nat.reduceSub, Int.cast_ofNat_Int] at hsl hs8 hs16
    have w1 : IntKind.i64.wrap ((i : Int) + 32) = (i : Int) + 32 := by rw [IntKind.wrap_i64]; omega
    have w3 : IntKind.i64.wrap (x3 : Int) = (x3 : Int) := IntWalk.i64_in _ (by omega)
    have w4 : IntKind.i64.wrap (x4 : Int) = (x4 : Int) := IntWalk.i64_in _ (by omega)
    have e0 : (i : Int).tdiv 32 = (g : Int) := by rw [Int.tdiv_eq_ediv_of_nonneg (by omega)]; omega
    have e0' : (i : Int) / 32 = (g : Int) := by omega
    have g8 : (g : Int) < 8 := by omega
    have wg : IntKind.i64.wrap (g : Int) = (g : Int) := IntWalk.i64_in _ (by omega)
    have g0 : (0 : Int) ≤ (g : Int) := by omega
    have HTY := Lib.hid hty
    clear hl hv he h hM1 hi hc hg hi8 hrd hrd8 hrd16 hbx hcap hty hx0 hx1 hx2 hx3 hx4 hx5 hq hin hal
    go_enter Try.func20, Try.ntmps20
    go_upto_region 1 with fail
    go_wp2_with fail
    refine HP.out.mono ?_; rintro e W0 ⟨rfl, rfl⟩
    go_upto_region 5 with fail
    have HBD : Hid (Below W1.heap.size W1 W1.drew) := Lib.hid (below_dN W1 1)
    have HBA0 : Hid (Below W1.heap.size W1 (W1.alloc (.cells #[.int .u64 0, .int .u64 0, .int .u64 0, .int .i64 0, .int .i64 0, .bool false] 41))) := Lib.hid (bAlloc (Below.refl _ _) _)
    have HBA : Hid (Below W1.heap.size W1 (W1.alloc (.cells #[.int .u64 0, .int .u64 0, .int .u64 0, .int .i64 0, .int .i64 0, .bool false] 41)).drew) := Lib.hid (bTrans HBA0.out (below_dN _ 1))
    have ha24 : (W1.alloc (.cells #[.int .u64 0, .int .u64 0, .int .u64 0, .int .i64 0, .int .i64 0, .bool false] 41)).cell? ⟨q, i + 24, none⟩ = some (.int .u8 (x3 : Int)) := (HBA0.out.cell (p := ⟨q, i + 24, none⟩) hqs).trans hc24
    have hag : (W1.alloc (.cells #[.int .u64 0, .int .u64 0, .int .u64 0, .int .i64 0, .int .i64 0, .bool false] 41)).cell? ⟨q, 256 + g, none⟩ = some (.bool x5) := (HBA0.out.cell (p := ⟨q, 256 + g, none⟩) hqs).trans hcg
    have HBC : Hid (Below W1.heap.size W1 (W1.drew.alloc (.cells #[.int .u64 0, .int .u64 0, .int .u64 0, .int .i64 0, .int .i64 0, .bool false] 41))) := Lib.hid (bAlloc HBD.out _)
    go_region_held3 (fun W => W.cell? ⟨q, i + 24, none⟩ = some (.int .u8 (x3 : Int)) ∧ W.cell? ⟨q, 256 + g, none⟩ = some (.bool x5))
      (first | exact ⟨hc24, hcg⟩ | go_keep)
      (first
        | (go_at_call 35; (with_reducible refine (HO0.out _ HBD.out).mono ?_); rintro e W2 ⟨rfl, rfl⟩)
        | (go_at_call 35; (with_reducible refine (HO0.out _ HBA.out).mono ?_); rintro e W2 ⟨rfl, rfl⟩)
        | (go_at_call 35; (with_reducible refine (HO0.out _ HBC.out).mono ?_); rintro e W2 ⟨rfl, rfl⟩)
        | (go_at_call 35; (with_reducible refine (HO1.out _ HBD.out).mono ?_); rintro e W2 ⟨rfl, rfl⟩)
        | (go_at_call 35; (with_reducible refine (HO1.out _ HBA.out).mono ?_); rintro e W2 ⟨rfl, rfl⟩)
        | (go_at_call 35; (with_reducible refine (HO1.out _ HBC.out).mono ?_); rintro e W2 ⟨rfl, rfl⟩)
        | (go_at_call 35; (with_reducible refine (HO2.out _ HBD.out).mono ?_); rintro e W2 ⟨rfl, rfl⟩)
        | (go_at_call 35; (with_reducible refine (HO2.out _ HBA.out).mono ?_); rintro e W2 ⟨rfl, rfl⟩)
        | (go_at_call 35; (with_reducible refine (HO2.out _ HBC.out).mono ?_); rintro e W2 ⟨rfl, rfl⟩))
    all_goals
      have hcap : W1.heap.size = S + 1 := HZ1.out
      obtain ⟨U, hU⟩ : ∃ U, (W1.alloc (.cells #[.int .u64 x0, .int .u64 x1, .int .u64 x2, .int .i64 (x3 : Int), .int .i64 (-1), .bool x5] 41)).drew = U := ⟨_, rfl⟩
      have HBU : Hid (Below W1.heap.size W1 U) := Lib.hid (by rw [← hU]; exact bTrans (bAlloc (Below.refl _ _) _) (below_dN _ 1))
      have HX := Lib.hid (boxN_below HX.out HBU.out)
      have HY : Hid (BoxN U (S + 1) #[.int .u64 x0, .int .u64 x1, .int .u64 x2, .int .i64 (x3 : Int), .int .i64 (-1), .bool x5]) := Lib.hid (by rw [← hU, ← hcap]; exact boxN_below (BoxN.new W1 _ _) (below_dN _ 1))
      have HB := Lib.hid (bTrans HB.out HBU.out)
      have hu25 : U.cell? ⟨q, i + 25, none⟩ = some (.int .u8 (x4 : Int)) := (HBU.out.cell (p := ⟨q, i + 25, none⟩) hqs).trans hc25
      have hSl : W.heap.size ≤ S := by rw [HS.out]; exact Nat.le_refl _
      rw [hU]
      clear hU hc24 hc25 hcg hcap ha24 hag hS hW1 hz1
      by_cases h64 : x4 ≤ 63
      · have hty : typeOf x4 = (x4 : Int) := if_pos h64
        have h64i : (x4 : Int) < 64 := by omega
        have HTY := Lib.hid hty
        have y4 : U.cell? ⟨S + 1, 4, none⟩ = some (.int .i64 (-1)) := HY.out.cell 4
        have yz : U.frozen? ⟨S + 1, 4, none⟩ = false := HY.out.frozen 4
        clear hty
        go_upto_region 8 with fail
        have HX := Lib.hid (HX.out.kp (KP.set1 U (S + 1) 4 (.int .i64 (x4 : Int))) HX.out.lt (by omega))
        have HY := Lib.hid (show BoxN _ _ #[.int .u64 x0, .int .u64 x1, .int .u64 x2, .int .i64 (x3 : Int), .int .i64 (x4 : Int), .bool x5] from HY.out.set 4 (.int .i64 (x4 : Int)))
        have HB := Lib.hid (below_set (B := S + 1) (j := 4) HB.out (by omega) (.int .i64 (x4 : Int)))
        obtain ⟨V, hV⟩ : ∃ W', U.setCell ⟨S + 1, 4, none⟩ (.int .i64 (x4 : Int)) = W' := ⟨_, rfl⟩
        rw [hV] at HX HY HB ⊢
        clear hV y4 yz hu25
        have y0 : V.cell? ⟨S + 1, 0, none⟩ = some (.int .u64 x0) := HY.out.cell 0
        have y1 : V.cell? ⟨S + 1, 1, none⟩ = some (.int .u64 x1) := HY.out.cell 1
        have y2 : V.cell? ⟨S + 1, 2, none⟩ = some (.int .u64 x2) := HY.out.cell 2
        have y3 : V.cell? ⟨S + 1, 3, none⟩ = some (.int .i64 (x3 : Int)) := HY.out.cell 3
        have y4 : V.cell? ⟨S + 1, 4, none⟩ = some (.int .i64 (x4 : Int)) := HY.out.cell 4
        have y5 : V.cell? ⟨S + 1, 5, none⟩ = some (.bool x5) := HY.out.cell 5
        have c0 : V.cell? ⟨S, 0, none⟩ = some (.int .u64 0) := HX.out.cell 0
        have z0 : V.frozen? ⟨S, 0, none⟩ = false := HX.out.frozen 0
        have c1 : V.cell? ⟨S, 1, none⟩ = some (.int .u64 0) := HX.out.cell 1
        have z1 : V.frozen? ⟨S, 1, none⟩ = false := HX.out.frozen 1
        have c2 : V.cell? ⟨S, 2, none⟩ = some (.int .u64 0) := HX.out.cell 2
        have z2 : V.frozen? ⟨S, 2, none⟩ = false := HX.out.frozen 2
        have c3 : V.cell? ⟨S, 3, none⟩ = some (.int .i64 0) := HX.out.cell 3
        have z3 : V.frozen? ⟨S, 3, none⟩ = false := HX.out.frozen 3
        have c4 : V.cell? ⟨S, 4, none⟩ = some (.int .i64 0) := HX.out.cell 4
        have z4 : V.frozen? ⟨S, 4, none⟩ = false := HX.out.frozen 4
        have c5 : V.cell? ⟨S, 5, none⟩ = some (.bool false) := HX.out.cell 5
        have z5 : V.frozen? ⟨S, 5, none⟩ = false := HX.out.frozen 5
        go_wp2_with fail
        have hbx : BoxN ((((((V.setCell ⟨S, 0, none⟩ (.int .u64 x0)).setCell ⟨S, 1, none⟩ (.int .u64 x1)).setCell ⟨S, 2, none⟩ (.int .u64 x2)).setCell ⟨S, 3, none⟩ (.int .i64 (x3 : Int))).setCell ⟨S, 4, none⟩ (.int .i64 (x4 : Int))).setCell ⟨S, 5, none⟩ (.bool x5)) S #[.int .u64 x0, .int .u64 x1, .int .u64 x2, .int .i64 (x3 : Int), .int .i64 (x4 : Int), .bool x5] := ((((((HX.out.set 0 (.int .u64 x0)).set 1 (.int .u64 x1)).set 2 (.int .u64 x2)).set 3 (.int .i64 (x3 : Int))).set 4 (.int .i64 (x4 : Int))).set 5 (.bool x5))
        have HBF := Lib.hid (show Below W.heap.size W ((((((V.setCell ⟨S, 0, none⟩ (.int .u64 x0)).setCell ⟨S, 1, none⟩ (.int .u64 x1)).setCell ⟨S, 2, none⟩ (.int .u64 x2)).setCell ⟨S, 3, none⟩ (.int .i64 (x3 : Int))).setCell ⟨S, 4, none⟩ (.int .i64 (x4 : Int))).setCell ⟨S, 5, none⟩ (.bool x5)) from (below_set (below_set (below_set (below_set (below_set (below_set HB.out hSl (.int .u64 x0)) hSl (.int .u64 x1)) hSl (.int .u64 x2)) hSl (.int .i64 (x3 : Int))) hSl (.int .i64 (x4 : Int))) hSl (.bool x5)))
        obtain ⟨WF, hWF⟩ : ∃ W', ((((((V.setCell ⟨S, 0, none⟩ (.int .u64 x0)).setCell ⟨S, 1, none⟩ (.int .u64 x1)).setCell ⟨S, 2, none⟩ (.int .u64 x2)).setCell ⟨S, 3, none⟩ (.int .i64 (x3 : Int))).setCell ⟨S, 4, none⟩ (.int .i64 (x4 : Int))).setCell ⟨S, 5, none⟩ (.bool x5)) = W' := ⟨_, rfl⟩
        rw [hWF] at hbx HBF ⊢
        clear hWF
        have q0 : WF.cell? ⟨S, 0, none⟩ = some (.int .u64 x0) := hbx.cell 0
        have q1 : WF.cell? ⟨S, 1, none⟩ = some (.int .u64 x1) := hbx.cell 1
        have q2 : WF.cell? ⟨S, 2, none⟩ = some (.int .u64 x2) := hbx.cell 2
        have q3 : WF.cell? ⟨S, 3, none⟩ = some (.int .i64 (x3 : Int)) := hbx.cell 3
        have q4 : WF.cell? ⟨S, 4, none⟩ = some (.int .i64 (x4 : Int)) := hbx.cell 4
        have q5 : WF.cell? ⟨S, 5, none⟩ = some (.bool x5) := hbx.cell 5
        refine bodyPost_ret (v := .tuple #[.agg #[.int .u64 x0, .int .u64 x1, .int .u64 x2, .int .i64 (x3 : Int), .int .i64 (x4 : Int), .bool x5], .int .i64 0]) ?_ rfl ⟨by rw [HTY.out], HBF.out⟩
        simp [results, Try.results20, go_sem, q0, q1, q2, q3, q4, q5]
      · have hty : typeOf x4 = -1 := if_neg h64
        have h64i : ¬ (x4 : Int) < 64 := by omega
        have HTY := Lib.hid hty
        clear hty
        go_upto_region 8 with fail
        clear hu25
        have y0 : U.cell? ⟨S + 1, 0, none⟩ = some (.int .u64 x0) := HY.out.cell 0
        have y1 : U.cell? ⟨S + 1, 1, none⟩ = some (.int .u64 x1) := HY.out.cell 1
        have y2 : U.cell? ⟨S + 1, 2, none⟩ = some (.int .u64 x2) := HY.out.cell 2
        have y3 : U.cell? ⟨S + 1, 3, none⟩ = some (.int .i64 (x3 : Int)) := HY.out.cell 3
        have y4 : U.cell? ⟨S + 1, 4, none⟩ = some (.int .i64 (-1)) := HY.out.cell 4
        have y5 : U.cell? ⟨S + 1, 5, none⟩ = some (.bool x5) := HY.out.cell 5
        have c0 : U.cell? ⟨S, 0, none⟩ = some (.int .u64 0) := HX.out.cell 0
        have z0 : U.frozen? ⟨S, 0, none⟩ = false := HX.out.frozen 0
        have c1 : U.cell? ⟨S, 1, none⟩ = some (.int .u64 0) := HX.out.cell 1
        have z1 : U.frozen? ⟨S, 1, none⟩ = false := HX.out.frozen 1
        have c2 : U.cell? ⟨S, 2, none⟩ = some (.int .u64 0) := HX.out.cell 2
        have z2 : U.frozen? ⟨S, 2, none⟩ = false := HX.out.frozen 2
        have c3 : U.cell? ⟨S, 3, none⟩ = some (.int .i64 0) := HX.out.cell 3
        have z3 : U.frozen? ⟨S, 3, none⟩ = false := HX.out.frozen 3
        have c4 : U.cell? ⟨S, 4, none⟩ = some (.int .i64 0) := HX.out.cell 4
        have z4 : U.frozen? ⟨S, 4, none⟩ = false := HX.out.frozen 4
        have c5 : U.cell? ⟨S, 5, none⟩ = some (.bool false) := HX.out.cell 5
        have z5 : U.frozen? ⟨S, 5, none⟩ = false := HX.out.frozen 5
        go_wp2_with fail
        have hbx : BoxN ((((((U.setCell ⟨S, 0, none⟩ (.int .u64 x0)).setCell ⟨S, 1, none⟩ (.int .u64 x1)).setCell ⟨S, 2, none⟩ (.int .u64 x2)).setCell ⟨S, 3, none⟩ (.int .i64 (x3 : Int))).setCell ⟨S, 4, none⟩ (.int .i64 (-1))).setCell ⟨S, 5, none⟩ (.bool x5)) S #[.int .u64 x0, .int .u64 x1, .int .u64 x2, .int .i64 (x3 : Int), .int .i64 (-1), .bool x5] := ((((((HX.out.set 0 (.int .u64 x0)).set 1 (.int .u64 x1)).set 2 (.int .u64 x2)).set 3 (.int .i64 (x3 : Int))).set 4 (.int .i64 (-1))).set 5 (.bool x5))
        have HBF := Lib.hid (show Below W.heap.size W ((((((U.setCell ⟨S, 0, none⟩ (.int .u64 x0)).setCell ⟨S, 1, none⟩ (.int .u64 x1)).setCell ⟨S, 2, none⟩ (.int .u64 x2)).setCell ⟨S, 3, none⟩ (.int .i64 (x3 : Int))).setCell ⟨S, 4, none⟩ (.int .i64 (-1))).setCell ⟨S, 5, none⟩ (.bool x5)) from (below_set (below_set (below_set (below_set (below_set (below_set HB.out hSl (.int .u64 x0)) hSl (.int .u64 x1)) hSl (.int .u64 x2)) hSl (.int .i64 (x3 : Int))) hSl (.int .i64 (-1))) hSl (.bool x5)))
        obtain ⟨WF, hWF⟩ : ∃ W', ((((((U.setCell ⟨S, 0, none⟩ (.int .u64 x0)).setCell ⟨S, 1, none⟩ (.int .u64 x1)).setCell ⟨S, 2, none⟩ (.int .u64 x2)).setCell ⟨S, 3, none⟩ (.int .i64 (x3 : Int))).setCell ⟨S, 4, none⟩ (.int .i64 (-1))).setCell ⟨S, 5, none⟩ (.bool x5)) = W' := ⟨_, rfl⟩
        rw [hWF] at hbx HBF ⊢
        clear hWF
        have q0 : WF.cell? ⟨S, 0, none⟩ = some (.int .u64 x0) := hbx.cell 0
        have q1 : WF.cell? ⟨S, 1, none⟩ = some (.int .u64 x1) := hbx.cell 1
        have q2 : WF.cell? ⟨S, 2, none⟩ = some (.int .u64 x2) := hbx.cell 2
        have q3 : WF.cell? ⟨S, 3, none⟩ = some (.int .i64 (x3 : Int)) := hbx.cell 3
        have q4 : WF.cell? ⟨S, 4, none⟩ = some (.int .i64 (-1)) := hbx.cell 4
        have q5 : WF.cell? ⟨S, 5, none⟩ = some (.bool x5) := hbx.cell 5
        refine bodyPost_ret (v := .tuple #[.agg #[.int .u64 x0, .int .u64 x1, .int .u64 x2, .int .i64 (x3 : Int), .int .i64 (-1), .bool x5], .int .i64 0]) ?_ rfl ⟨by rw [HTY.out], HBF.out⟩
        simp [results, Try.results20, go_sem, q0, q1, q2, q3, q4, q5]
  · have hl : loadC m a = (noCp, spotE m a) := by unfold loadC; rw [if_neg he]
    rw [hl]
    rw [hv] at HP
    obtain ⟨e1, he1⟩ : ∃ e, spotE m a = e := ⟨_, rfl⟩
    rw [he1] at HP he ⊢
    have hcap : (capC noCp).toArray = #[.int .u64 0, .int .u64 0, .int .u64 0, .int .i64 0, .int .i64 0, .bool false] := rfl
    rw [hcap]
    have hSl : W.heap.size ≤ S := by omega
    clear hl hv h hM1 he1 hcap
    go_enter Try.func20, Try.ntmps20
    go_upto_region 1 with fail
    go_wp2_with fail
    refine HP.out.mono ?_; rintro e W0 ⟨rfl, rfl⟩
    clear hS hW1 hz1
    have c0 : W1.cell? ⟨S, 0, none⟩ = some (.int .u64 0) := HX.out.cell 0
    have z0 : W1.frozen? ⟨S, 0, none⟩ = false := HX.out.frozen 0
    have c1 : W1.cell? ⟨S, 1, none⟩ = some (.int .u64 0) := HX.out.cell 1
    have z1 : W1.frozen? ⟨S, 1, none⟩ = false := HX.out.frozen 1
    have c2 : W1.cell? ⟨S, 2, none⟩ = some (.int .u64 0) := HX.out.cell 2
    have z2 : W1.frozen? ⟨S, 2, none⟩ = false := HX.out.frozen 2
    have c3 : W1.cell? ⟨S, 3, none⟩ = some (.int .i64 0) := HX.out.cell 3
    have z3 : W1.frozen? ⟨S, 3, none⟩ = false := HX.out.frozen 3
    have c4 : W1.cell? ⟨S, 4, none⟩ = some (.int .i64 0) := HX.out.cell 4
    have z4 : W1.frozen? ⟨S, 4, none⟩ = false := HX.out.frozen 4
    have c5 : W1.cell? ⟨S, 5, none⟩ = some (.bool false) := HX.out.cell 5
    have z5 : W1.frozen? ⟨S, 5, none⟩ = false := HX.out.frozen 5
    go_wp2_with fail
    have hbx : BoxN ((((((W1.setCell ⟨S, 0, none⟩ (.int .u64 0)).setCell ⟨S, 1, none⟩ (.int .u64 0)).setCell ⟨S, 2, none⟩ (.int .u64 0)).setCell ⟨S, 3, none⟩ (.int .i64 0)).setCell ⟨S, 4, none⟩ (.int .i64 0)).setCell ⟨S, 5, none⟩ (.bool false)) S #[.int .u64 0, .int .u64 0, .int .u64 0, .int .i64 0, .int .i64 0, .bool false] := ((((((HX.out.set 0 (.int .u64 0)).set 1 (.int .u64 0)).set 2 (.int .u64 0)).set 3 (.int .i64 0)).set 4 (.int .i64 0)).set 5 (.bool false))
    have HBF := Lib.hid (show Below W.heap.size W ((((((W1.setCell ⟨S, 0, none⟩ (.int .u64 0)).setCell ⟨S, 1, none⟩ (.int .u64 0)).setCell ⟨S, 2, none⟩ (.int .u64 0)).setCell ⟨S, 3, none⟩ (.int .i64 0)).setCell ⟨S, 4, none⟩ (.int .i64 0)).setCell ⟨S, 5, none⟩ (.bool false)) from (below_set (below_set (below_set (below_set (below_set (below_set HB.out hSl (.int .u64 0)) hSl (.int .u64 0)) hSl (.int .u64 0)) hSl (.int .i64 0)) hSl (.int .i64 0)) hSl (.bool false)))
    obtain ⟨WF, hWF⟩ : ∃ W', ((((((W1.setCell ⟨S, 0, none⟩ (.int .u64 0)).setCell ⟨S, 1, none⟩ (.int .u64 0)).setCell ⟨S, 2, none⟩ (.int .u64 0)).setCell ⟨S, 3, none⟩ (.int .i64 0)).setCell ⟨S, 4, none⟩ (.int .i64 0)).setCell ⟨S, 5, none⟩ (.bool false)) = W' := ⟨_, rfl⟩
    rw [hWF] at hbx HBF ⊢
    clear hWF
    have q0 : WF.cell? ⟨S, 0, none⟩ = some (.int .u64 0) := hbx.cell 0
    have q1 : WF.cell? ⟨S, 1, none⟩ = some (.int .u64 0) := hbx.cell 1
    have q2 : WF.cell? ⟨S, 2, none⟩ = some (.int .u64 0) := hbx.cell 2
    have q3 : WF.cell? ⟨S, 3, none⟩ = some (.int .i64 0) := hbx.cell 3
    have q4 : WF.cell? ⟨S, 4, none⟩ = some (.int .i64 0) := hbx.cell 4
    have q5 : WF.cell? ⟨S, 5, none⟩ = some (.bool false) := hbx.cell 5
    refine bodyPost_ret (v := .tuple #[.agg #[.int .u64 0, .int .u64 0, .int .u64 0, .int .i64 0, .int .i64 0, .bool false], .int .i64 e1]) ?_ rfl ⟨rfl, HBF.out⟩
    simp [results, Try.results20, go_sem, q0, q1, q2, q3, q4, q5]
end Go.Proofs.Ytgfkjlknkbdjiaa
