/- The document's memory: a capability is loaded: contract. -/
import Derived.Test.YtgfkjlknkbdjiaaTmLc
import Derived.Test.YtgfkjlknkbdjiaaTmN
import Derived.Test.YtgfkjlknkbdjiaaTmU
import Derived.Deep.Cut
namespace Go.Proofs.Ytgfkjlknkbdjiaa
set_option linter.unusedVariables false
set_option linter.unusedSimpArgs false
open Go.Joins Go.ChangeShapes Go.WideShapes Go.ChangeAt Go.RowKit Go.Deep

theorem boxN_drew {W : World} {B : Nat} {cs : Array Value} (h : BoxN W B cs) : BoxN W.drew B cs := h
theorem cell_off {W : World} {g S k j : Nat} {x : Value} (hg : g ≠ S) : (W.setCell ⟨S, k, none⟩ x).cell? ⟨g, j, none⟩ = W.cell? ⟨g, j, none⟩ :=
  World.cell?_setCell_other _ _ _ _ (fun e => by have h1 := congrArg Addr.block e; simp only at h1; exact hg (by omega))
theorem keep6 {W : World} {g S j : Nat} {v : Value} (hg : g ≠ S) (x0 x1 x2 x3 x4 x5 : Value) (h : W.cell? ⟨g, j, none⟩ = some v) :
    ((((((W.setCell ⟨S, 0, none⟩ x0).setCell ⟨S, 1, none⟩ x1).setCell ⟨S, 2, none⟩ x2).setCell ⟨S, 3, none⟩ x3).setCell ⟨S, 4, none⟩ x4).setCell ⟨S, 5, none⟩ x5).drew.cell? ⟨g, j, none⟩ = some v := by
  have e : ∀ U : World, U.drew.cell? ⟨g, j, none⟩ = U.cell? ⟨g, j, none⟩ := fun U => rfl
  rw [e, cell_off hg, cell_off hg, cell_off hg, cell_off hg, cell_off hg, cell_off hg]
  exact h
set_option maxRecDepth 100000 in
set_option maxHeartbeats 1000000 in
theorem rloadC_any (W : World) (R : Nat) (F : Nat → Prop) (m : Mm) (h : RmAt W R F m) (a : Nat) (ha : a < 18446744073709551616) :
    Calls Try.prog 47 #[.pointer (some ⟨R, 0, none⟩), .int .u64 (a : Int)] W fun e W' => e = .returned (.tuple #[.agg (capC (loadC m a).1).toArray, .int .i64 (loadC m a).2]) ∧ Below W.heap.size W W' := by
  obtain ⟨S, hS⟩ : ∃ S, W.heap.size = S := ⟨_, rfl⟩
  obtain ⟨W1, hW1⟩ : ∃ W1, W.alloc (.cells #[.int .u64 0, .int .u64 0, .int .u64 0, .int .i64 0, .int .i64 0, .bool false] 41) = W1 := ⟨_, rfl⟩
  have HX : Hid (BoxN W1 S #[.int .u64 0, .int .u64 0, .int .u64 0, .int .i64 0, .int .i64 0, .bool false]) := Lib.hid (by rw [← hW1, ← hS]; exact BoxN.new W _ _)
  have HB : Hid (Below W.heap.size W W1) := Lib.hid (by rw [← hW1]; exact bAlloc (Below.refl _ _) _)
  have hM1 := h.below HB.out
  have HP := Lib.hid (rspot_any W1 R F m hM1 a ha)
  have hz1 : W1.heap.size = S + 1 := by rw [← hW1, size_alloc, hS]
  have HZ1 := Lib.hid hz1
  have hSl : W.heap.size ≤ S := by omega
  by_cases he : spotE m a = 0
  · have hl : loadC m a = (capOf m a, 0) := by unfold loadC; rw [if_pos he, Int.toNat_natCast]
    have hal : (a : Int) % 32 = 0 := by
      apply Classical.byContradiction
      intro hc
      unfold spotE at he
      rw [if_pos hc] at he
      cases he
    have hin : a / 256 ∈ m.pgs := by
      unfold spotE at he
      rw [if_neg (by omega)] at he
      by_cases hi : isIn m a = true
      · have := of_decide_eq_true hi
        rwa [show ((a : Int) / 256).toNat = a / 256 by omega] at this
      · rw [if_neg hi] at he
        cases he
    rw [hl]
    rw [he] at HP
    have hpl := h.ok.pl _ hin
    have HMA := Lib.hid (rmany_any W1 R F m hM1 a 32 (by omega) (by decide))
    have HOK := Lib.hid h.ok
    have HM1 := Lib.hid hM1
    have hcap : (capC (capOf m a)).toArray = #[.int .u64 ((ofB (manyB m a 8) : Nat) : Int), .int .u64 ((ofB (manyB m (a + 8) 8) : Nat) : Int), .int .u64 ((ofB (manyB m (a + 16) 8) : Nat) : Int), .int .i64 (m.by_ (a + 24) : Int), .int .i64 (typeOf (m.by_ (a + 25))), .bool (decide (a / 32 ∈ m.mks))] := rfl
    rw [hcap]
    obtain ⟨x0, hx0⟩ : ∃ x, ((ofB (manyB m a 8) : Nat) : Int) = x := ⟨_, rfl⟩
    obtain ⟨x1, hx1⟩ : ∃ x, ((ofB (manyB m (a + 8) 8) : Nat) : Int) = x := ⟨_, rfl⟩
    obtain ⟨x2, hx2⟩ : ∃ x, ((ofB (manyB m (a + 16) 8) : Nat) : Int) = x := ⟨_, rfl⟩
    obtain ⟨x3, hx3⟩ : ∃ x, m.by_ (a + 24) = x := ⟨_, rfl⟩
    obtain ⟨x4, hx4⟩ : ∃ x, m.by_ (a + 25) = x := ⟨_, rfl⟩
    obtain ⟨x5, hx5⟩ : ∃ x, decide (a / 32 ∈ m.mks) = x := ⟨_, rfl⟩
    rw [hx0, hx1, hx2, hx3, hx4, hx5]
    have K0 := Lib.hid hx0
    have K1 := Lib.hid hx1
    have K2 := Lib.hid hx2
    have K3 := Lib.hid hx3
    have K4 := Lib.hid hx4
    have K5 := Lib.hid hx5
    clear hl he h hM1 hin hcap hx0 hx1 hx2 hx3 hx4 hx5
    go_enter Try.func47, Try.ntmps47
    go_upto_region 1 with fail
    go_wp2_with fail
    refine HP.out.mono ?_; rintro e W0 ⟨rfl, rfl⟩
    clear hW1 hz1
    go_wp2_with fail
    refine HMA.out.mono ?_; rintro e W2 ⟨⟨ra, rc, rfl, hown⟩, hb2⟩
    obtain ⟨g, rfl, hg1, hg2, hrc⟩ : ∃ g, ra = some ⟨g, 0, none⟩ ∧ W1.heap.size ≤ g ∧ g < W2.heap.size ∧ 32 ≤ rc := by
      rcases hown.2 with ⟨_, h0⟩ | ⟨g, cap, cur, hv, hg, hb, hn, r⟩
      · cases h0
      · cases hv
        exact ⟨g, rfl, hg, (Array.getElem?_eq_some_iff.1 hb).1, hn⟩
    have hrd : Rd W2 (some ⟨g, 0, none⟩) 32 (u8s (manyB m a 32)) := by
      have := own_rd hown
      rwa [Nat.mul_one] at this
    have hM2 := HM1.out.below hb2
    have hc24 : W2.cell? ⟨g, 24, none⟩ = some (.int .u8 (m.by_ (a + 24) : Int)) := by
      obtain ⟨b', o', e', _, hc⟩ := hrd.2 (by decide)
      cases e'
      have := hc 24 (by decide)
      rw [Nat.zero_add] at this
      exact this.trans (many_at (by decide))
    have hc25 : W2.cell? ⟨g, 25, none⟩ = some (.int .u8 (m.by_ (a + 25) : Int)) := by
      obtain ⟨b', o', e', _, hc⟩ := hrd.2 (by decide)
      cases e'
      have := hc 25 (by decide)
      rw [Nat.zero_add] at this
      exact this.trans (many_at (by decide))
    have hr0 := many_sub m a 32 0 8 (by decide) hrd
    have hr8 := many_sub m a 32 8 8 (by decide) hrd
    have hr16 := many_sub m a 32 16 8 (by decide) hrd
    rw [Nat.zero_add, Nat.add_zero] at hr0
    rw [Nat.zero_add] at hr8 hr16
    have hb24 := HOK.out.by_ (a + 24)
    have hb25 := HOK.out.by_ (a + 25)
    have HO0 := Lib.hid (fun (W' : World) (hb : Below W2.heap.size W2 W') => rof_any (some ⟨g, 0, none⟩) 8 rc _ W' (hr0.below hb) (manyB_lt HOK.out _ _) (by decide))
    have HO1 := Lib.hid (fun (W' : World) (hb : Below W2.heap.size W2 W') => rof_any (some ⟨g, 8, none⟩) 8 (rc - 8) _ W' (hr8.below hb) (manyB_lt HOK.out _ _) (by decide))
    have HO2 := Lib.hid (fun (W' : World) (hb : Below W2.heap.size W2 W') => rof_any (some ⟨g, 16, none⟩) 8 (rc - 16) _ W' (hr16.below hb) (manyB_lt HOK.out _ _) (by decide))
    obtain ⟨na, ca, ka, nc, cc, kc, cs, hO⟩ := hM2
    have k2 : W2.cell? ⟨R, 2, none⟩ = some (.slice ka m.mks.length kc) := hO.box.cell 2
    have HH := Lib.hid (rhas_any ka m.mks.length kc (m.mks.map (32 * ·)) a W2 hO.rk.1 (by have := mks_len HOK.out; omega))
    have hdec : decide (a ∈ m.mks.map (32 * ·)) = decide (a / 32 ∈ m.mks) := by
      apply decide_eq_decide.2
      rw [List.mem_map]
      constructor
      · rintro ⟨x, hx, hxe⟩
        have : a / 32 = x := by omega
        rw [this]; exact hx
      · intro hx
        exact ⟨_, hx, by omega⟩
    rw [hdec] at HH
    obtain ⟨nk, hnk⟩ : ∃ x, m.mks.length = x := ⟨_, rfl⟩
    rw [K0.out] at HO0
    rw [K1.out] at HO1
    rw [K2.out] at HO2
    rw [K3.out] at hc24 hb24
    rw [K4.out] at hc25 hb25
    rw [K5.out, hnk] at HH
    rw [hnk] at k2
    have hs0 : ∀ w, (Instr.sliceAt 51 (.slice (some ⟨g, 0, none⟩) 32 rc) (some (.int .i64 0)) (some (.int .i64 8)) none).run Try.prog w = .ok (.slice (some ⟨g, 0, none⟩) 8 rc) w := fun w => run_midB w g 0 0 8 32 rc (by decide) (by omega) (by omega)
    have hs8 : ∀ w, (Instr.sliceAt 51 (.slice (some ⟨g, 0, none⟩) 32 rc) (some (.int .i64 8)) (some (.int .i64 16)) none).run Try.prog w = .ok (.slice (some ⟨g, 8, none⟩) 8 (rc - 8)) w := fun w => by
      have := run_midB w g 0 8 16 32 rc (by decide) (by omega) (by omega)
      rw [Nat.zero_add] at this
      exact this
    have hs16 : ∀ w, (Instr.sliceAt 51 (.slice (some ⟨g, 0, none⟩) 32 rc) (some (.int .i64 16)) (some (.int .i64 24)) none).run Try.prog w = .ok (.slice (some ⟨g, 16, none⟩) 8 (rc - 16)) w := fun w => by
      have := run_midB w g 0 16 24 32 rc (by decide) (by omega) (by omega)
      rw [Nat.zero_add] at this
      exact this
    have w3 : IntKind.i64.wrap (x3 : Int) = (x3 : Int) := IntWalk.i64_in _ (by omega)
    have w4 : IntKind.i64.wrap (x4 : Int) = (x4 : Int) := IntWalk.i64_in _ (by omega)
    have HX2 := Lib.hid (boxN_below HX.out hb2)
    have HB2 := Lib.hid (bTrans HB.out hb2)
    have HBD : Hid (Below W2.heap.size W2 W2.drew) := Lib.hid (below_dN W2 1)
    clear hown hrd hr0 hr8 hr16 hO hdec hnk hb2 HX HB HMA HP
    by_cases h64 : x4 ≤ 63
    · have hty : typeOf x4 = (x4 : Int) := if_pos h64
      have h64i : ¬ (63 : Int) < (x4 : Int) := by omega
      have HTY := Lib.hid hty
      clear hty
      go_wp2_with fail
      refine HH.out.mono ?_; rintro e W3 ⟨rfl, rfl⟩
      clear HH k2 hc25
      have c0 : W2.cell? ⟨S, 0, none⟩ = some (.int .u64 0) := HX2.out.cell 0
      have z0 : W2.frozen? ⟨S, 0, none⟩ = false := HX2.out.frozen 0
      have c1 : W2.cell? ⟨S, 1, none⟩ = some (.int .u64 0) := HX2.out.cell 1
      have z1 : W2.frozen? ⟨S, 1, none⟩ = false := HX2.out.frozen 1
      have c2 : W2.cell? ⟨S, 2, none⟩ = some (.int .u64 0) := HX2.out.cell 2
      have z2 : W2.frozen? ⟨S, 2, none⟩ = false := HX2.out.frozen 2
      have c3 : W2.cell? ⟨S, 3, none⟩ = some (.int .i64 0) := HX2.out.cell 3
      have z3 : W2.frozen? ⟨S, 3, none⟩ = false := HX2.out.frozen 3
      have c4 : W2.cell? ⟨S, 4, none⟩ = some (.int .i64 0) := HX2.out.cell 4
      have z4 : W2.frozen? ⟨S, 4, none⟩ = false := HX2.out.frozen 4
      have c5 : W2.cell? ⟨S, 5, none⟩ = some (.bool false) := HX2.out.cell 5
      have z5 : W2.frozen? ⟨S, 5, none⟩ = false := HX2.out.frozen 5
      have hgS : g ≠ S := by have := HZ1.out; omega
      have hc24d : W2.drew.cell? ⟨g, 24, none⟩ = some (.int .u8 (x3 : Int)) := hc24
      have hc24s : ((((((W2.setCell ⟨S, 0, none⟩ (.int .u64 x0)).setCell ⟨S, 1, none⟩ (.int .u64 x1)).setCell ⟨S, 2, none⟩ (.int .u64 x2)).setCell ⟨S, 3, none⟩ (.int .i64 (x3 : Int))).setCell ⟨S, 4, none⟩ (.int .i64 (x4 : Int))).setCell ⟨S, 5, none⟩ (.bool x5)).drew.cell? ⟨g, 24, none⟩ = some (.int .u8 (x3 : Int)) := keep6 hgS (.int .u64 x0) (.int .u64 x1) (.int .u64 x2) (.int .i64 (x3 : Int)) (.int .i64 (x4 : Int)) (.bool x5) hc24
      go_upto_region 9 with fail
      go_region_held3 (fun W => W.cell? ⟨g, 24, none⟩ = some (.int .u8 (x3 : Int)))
        (first | with_reducible exact hc24 | with_reducible exact hc24d | with_reducible exact hc24s | go_keep)
        (first
          | (go_at_call 61; (with_reducible refine (HO0.out _ HBD.out).mono ?_); rintro e W4 ⟨rfl, rfl⟩)
          | (go_at_call 61; (with_reducible refine (HO1.out _ HBD.out).mono ?_); rintro e W4 ⟨rfl, rfl⟩)
          | (go_at_call 61; (with_reducible refine (HO2.out _ HBD.out).mono ?_); rintro e W4 ⟨rfl, rfl⟩))
      all_goals
        go_wp2_with fail
        have hbx : BoxN ((((((W2.setCell ⟨S, 0, none⟩ (.int .u64 x0)).setCell ⟨S, 1, none⟩ (.int .u64 x1)).setCell ⟨S, 2, none⟩ (.int .u64 x2)).setCell ⟨S, 3, none⟩ (.int .i64 (x3 : Int))).setCell ⟨S, 4, none⟩ (.int .i64 (x4 : Int))).setCell ⟨S, 5, none⟩ (.bool x5)).drew S #[.int .u64 x0, .int .u64 x1, .int .u64 x2, .int .i64 (x3 : Int), .int .i64 (x4 : Int), .bool x5] := boxN_drew (((((((HX2.out.set 0 (.int .u64 x0)).set 1 (.int .u64 x1)).set 2 (.int .u64 x2)).set 3 (.int .i64 (x3 : Int))).set 4 (.int .i64 (x4 : Int))).set 5 (.bool x5)))
        have HBF := Lib.hid (show Below W.heap.size W ((((((W2.setCell ⟨S, 0, none⟩ (.int .u64 x0)).setCell ⟨S, 1, none⟩ (.int .u64 x1)).setCell ⟨S, 2, none⟩ (.int .u64 x2)).setCell ⟨S, 3, none⟩ (.int .i64 (x3 : Int))).setCell ⟨S, 4, none⟩ (.int .i64 (x4 : Int))).setCell ⟨S, 5, none⟩ (.bool x5)).drew from Below.drew ((below_set (below_set (below_set (below_set (below_set (below_set HB2.out hSl (.int .u64 x0)) hSl (.int .u64 x1)) hSl (.int .u64 x2)) hSl (.int .i64 (x3 : Int))) hSl (.int .i64 (x4 : Int))) hSl (.bool x5))))
        obtain ⟨WF, hWF⟩ : ∃ W', ((((((W2.setCell ⟨S, 0, none⟩ (.int .u64 x0)).setCell ⟨S, 1, none⟩ (.int .u64 x1)).setCell ⟨S, 2, none⟩ (.int .u64 x2)).setCell ⟨S, 3, none⟩ (.int .i64 (x3 : Int))).setCell ⟨S, 4, none⟩ (.int .i64 (x4 : Int))).setCell ⟨S, 5, none⟩ (.bool x5)).drew = W' := ⟨_, rfl⟩
        rw [hWF] at hbx HBF ⊢
        clear hWF
        have q0 : WF.cell? ⟨S, 0, none⟩ = some (.int .u64 x0) := hbx.cell 0
        have q1 : WF.cell? ⟨S, 1, none⟩ = some (.int .u64 x1) := hbx.cell 1
        have q2 : WF.cell? ⟨S, 2, none⟩ = some (.int .u64 x2) := hbx.cell 2
        have q3 : WF.cell? ⟨S, 3, none⟩ = some (.int .i64 (x3 : Int)) := hbx.cell 3
        have q4 : WF.cell? ⟨S, 4, none⟩ = some (.int .i64 (x4 : Int)) := hbx.cell 4
        have q5 : WF.cell? ⟨S, 5, none⟩ = some (.bool x5) := hbx.cell 5
        refine bodyPost_ret (v := .tuple #[.agg #[.int .u64 x0, .int .u64 x1, .int .u64 x2, .int .i64 (x3 : Int), .int .i64 (x4 : Int), .bool x5], .int .i64 0]) ?_ rfl ⟨by rw [HTY.out], HBF.out⟩
        simp [results, Try.results47, go_sem, q0, q1, q2, q3, q4, q5]
    · have hty : typeOf x4 = -1 := if_neg h64
      have h64i : (63 : Int) < (x4 : Int) := by omega
      have HTY := Lib.hid hty
      clear hty
      go_wp2_with fail
      refine HH.out.mono ?_; rintro e W3 ⟨rfl, rfl⟩
      clear HH k2 hc25
      have c0 : W2.cell? ⟨S, 0, none⟩ = some (.int .u64 0) := HX2.out.cell 0
      have z0 : W2.frozen? ⟨S, 0, none⟩ = false := HX2.out.frozen 0
      have c1 : W2.cell? ⟨S, 1, none⟩ = some (.int .u64 0) := HX2.out.cell 1
      have z1 : W2.frozen? ⟨S, 1, none⟩ = false := HX2.out.frozen 1
      have c2 : W2.cell? ⟨S, 2, none⟩ = some (.int .u64 0) := HX2.out.cell 2
      have z2 : W2.frozen? ⟨S, 2, none⟩ = false := HX2.out.frozen 2
      have c3 : W2.cell? ⟨S, 3, none⟩ = some (.int .i64 0) := HX2.out.cell 3
      have z3 : W2.frozen? ⟨S, 3, none⟩ = false := HX2.out.frozen 3
      have c4 : W2.cell? ⟨S, 4, none⟩ = some (.int .i64 0) := HX2.out.cell 4
      have z4 : W2.frozen? ⟨S, 4, none⟩ = false := HX2.out.frozen 4
      have c5 : W2.cell? ⟨S, 5, none⟩ = some (.bool false) := HX2.out.cell 5
      have z5 : W2.frozen? ⟨S, 5, none⟩ = false := HX2.out.frozen 5
      have hgS : g ≠ S := by have := HZ1.out; omega
      have hc24d : W2.drew.cell? ⟨g, 24, none⟩ = some (.int .u8 (x3 : Int)) := hc24
      have hc24s : ((((((W2.setCell ⟨S, 0, none⟩ (.int .u64 x0)).setCell ⟨S, 1, none⟩ (.int .u64 x1)).setCell ⟨S, 2, none⟩ (.int .u64 x2)).setCell ⟨S, 3, none⟩ (.int .i64 (x3 : Int))).setCell ⟨S, 4, none⟩ (.int .i64 (-1))).setCell ⟨S, 5, none⟩ (.bool x5)).drew.cell? ⟨g, 24, none⟩ = some (.int .u8 (x3 : Int)) := keep6 hgS (.int .u64 x0) (.int .u64 x1) (.int .u64 x2) (.int .i64 (x3 : Int)) (.int .i64 (-1)) (.bool x5) hc24
      go_upto_region 9 with fail
      go_region_held3 (fun W => W.cell? ⟨g, 24, none⟩ = some (.int .u8 (x3 : Int)))
        (first | with_reducible exact hc24 | with_reducible exact hc24d | with_reducible exact hc24s | go_keep)
        (first
          | (go_at_call 61; (with_reducible refine (HO0.out _ HBD.out).mono ?_); rintro e W4 ⟨rfl, rfl⟩)
          | (go_at_call 61; (with_reducible refine (HO1.out _ HBD.out).mono ?_); rintro e W4 ⟨rfl, rfl⟩)
          | (go_at_call 61; (with_reducible refine (HO2.out _ HBD.out).mono ?_); rintro e W4 ⟨rfl, rfl⟩))
      all_goals
        go_wp2_with fail
        have hbx : BoxN ((((((W2.setCell ⟨S, 0, none⟩ (.int .u64 x0)).setCell ⟨S, 1, none⟩ (.int .u64 x1)).setCell ⟨S, 2, none⟩ (.int .u64 x2)).setCell ⟨S, 3, none⟩ (.int .i64 (x3 : Int))).setCell ⟨S, 4, none⟩ (.int .i64 (-1))).setCell ⟨S, 5, none⟩ (.bool x5)).drew S #[.int .u64 x0, .int .u64 x1, .int .u64 x2, .int .i64 (x3 : Int), .int .i64 (-1), .bool x5] := boxN_drew (((((((HX2.out.set 0 (.int .u64 x0)).set 1 (.int .u64 x1)).set 2 (.int .u64 x2)).set 3 (.int .i64 (x3 : Int))).set 4 (.int .i64 (-1))).set 5 (.bool x5)))
        have HBF := Lib.hid (show Below W.heap.size W ((((((W2.setCell ⟨S, 0, none⟩ (.int .u64 x0)).setCell ⟨S, 1, none⟩ (.int .u64 x1)).setCell ⟨S, 2, none⟩ (.int .u64 x2)).setCell ⟨S, 3, none⟩ (.int .i64 (x3 : Int))).setCell ⟨S, 4, none⟩ (.int .i64 (-1))).setCell ⟨S, 5, none⟩ (.bool x5)).drew from Below.drew ((below_set (below_set (below_set (below_set (below_set (below_set HB2.out hSl (.int .u64 x0)) hSl (.int .u64 x1)) hSl (.int .u64 x2)) hSl (.int .i64 (x3 : Int))) hSl (.int .i64 (-1))) hSl (.bool x5))))
        obtain ⟨WF, hWF⟩ : ∃ W', ((((((W2.setCell ⟨S, 0, none⟩ (.int .u64 x0)).setCell ⟨S, 1, none⟩ (.int .u64 x1)).setCell ⟨S, 2, none⟩ (.int .u64 x2)).setCell ⟨S, 3, none⟩ (.int .i64 (x3 : Int))).setCell ⟨S, 4, none⟩ (.int .i64 (-1))).setCell ⟨S, 5, none⟩ (.bool x5)).drew = W' := ⟨_, rfl⟩
        rw [hWF] at hbx HBF ⊢
        clear hWF
        have q0 : WF.cell? ⟨S, 0, none⟩ = some (.int .u64 x0) := hbx.cell 0
        have q1 : WF.cell? ⟨S, 1, none⟩ = some (.int .u64 x1) := hbx.cell 1
        have q2 : WF.cell? ⟨S, 2, none⟩ = some (.int .u64 x2) := hbx.cell 2
        have q3 : WF.cell? ⟨S, 3, none⟩ = some (.int .i64 (x3 : Int)) := hbx.cell 3
        have q4 : WF.cell? ⟨S, 4, none⟩ = some (.int .i64 (-1)) := hbx.cell 4
        have q5 : WF.cell? ⟨S, 5, none⟩ = some (.bool x5) := hbx.cell 5
        refine bodyPost_ret (v := .tuple #[.agg #[.int .u64 x0, .int .u64 x1, .int .u64 x2, .int .i64 (x3 : Int), .int .i64 (-1), .bool x5], .int .i64 0]) ?_ rfl ⟨by rw [HTY.out], HBF.out⟩
        simp [results, Try.results47, go_sem, q0, q1, q2, q3, q4, q5]
  · have hl : loadC m a = (noCp, spotE m a) := by unfold loadC; rw [if_neg he]
    rw [hl]
    obtain ⟨e1, he1⟩ : ∃ e, spotE m a = e := ⟨_, rfl⟩
    rw [he1] at HP he ⊢
    have hcap : (capC noCp).toArray = #[.int .u64 0, .int .u64 0, .int .u64 0, .int .i64 0, .int .i64 0, .bool false] := rfl
    rw [hcap]
    clear hl h hM1 he1 hcap
    go_enter Try.func47, Try.ntmps47
    go_upto_region 1 with fail
    go_wp2_with fail
    refine HP.out.mono ?_; rintro e W0 ⟨rfl, rfl⟩
    clear hS hW1 hz1
    have c0 : W1.cell? ⟨S, 0, none⟩ = some (.int .u64 0) := HX.out.cell 0
    have z0 : W1.frozen? ⟨S, 0, none⟩ = false := HX.out.frozen 0
    have c1 : W1.cell? ⟨S, 1, none⟩ = some (.int .u64 0) := HX.out.cell 1
    have z1 : W1.frozen? ⟨S, 1, none⟩ = false := HX.out.frozen 1
    have c2 : W1.cell? ⟨S, 2, none⟩ = some (.int .u64 0) := HX.out.cell 2
    have z2 : W1.frozen? ⟨S, 2, none⟩ = false := HX.out.frozen 2
    have c3 : W1.cell? ⟨S, 3, none⟩ = some (.int .i64 0) := HX.out.cell 3
    have z3 : W1.frozen? ⟨S, 3, none⟩ = false := HX.out.frozen 3
    have c4 : W1.cell? ⟨S, 4, none⟩ = some (.int .i64 0) := HX.out.cell 4
    have z4 : W1.frozen? ⟨S, 4, none⟩ = false := HX.out.frozen 4
    have c5 : W1.cell? ⟨S, 5, none⟩ = some (.bool false) := HX.out.cell 5
    have z5 : W1.frozen? ⟨S, 5, none⟩ = false := HX.out.frozen 5
    go_wp2_with fail
    have hbx : BoxN ((((((W1.setCell ⟨S, 0, none⟩ (.int .u64 0)).setCell ⟨S, 1, none⟩ (.int .u64 0)).setCell ⟨S, 2, none⟩ (.int .u64 0)).setCell ⟨S, 3, none⟩ (.int .i64 0)).setCell ⟨S, 4, none⟩ (.int .i64 0)).setCell ⟨S, 5, none⟩ (.bool false)) S #[.int .u64 0, .int .u64 0, .int .u64 0, .int .i64 0, .int .i64 0, .bool false] := ((((((HX.out.set 0 (.int .u64 0)).set 1 (.int .u64 0)).set 2 (.int .u64 0)).set 3 (.int .i64 0)).set 4 (.int .i64 0)).set 5 (.bool false))
    have HBF := Lib.hid (show Below W.heap.size W ((((((W1.setCell ⟨S, 0, none⟩ (.int .u64 0)).setCell ⟨S, 1, none⟩ (.int .u64 0)).setCell ⟨S, 2, none⟩ (.int .u64 0)).setCell ⟨S, 3, none⟩ (.int .i64 0)).setCell ⟨S, 4, none⟩ (.int .i64 0)).setCell ⟨S, 5, none⟩ (.bool false)) from (below_set (below_set (below_set (below_set (below_set (below_set HB.out hSl (.int .u64 0)) hSl (.int .u64 0)) hSl (.int .u64 0)) hSl (.int .i64 0)) hSl (.int .i64 0)) hSl (.bool false)))
    obtain ⟨WF, hWF⟩ : ∃ W', ((((((W1.setCell ⟨S, 0, none⟩ (.int .u64 0)).setCell ⟨S, 1, none⟩ (.int .u64 0)).setCell ⟨S, 2, none⟩ (.int .u64 0)).setCell ⟨S, 3, none⟩ (.int .i64 0)).setCell ⟨S, 4, none⟩ (.int .i64 0)).setCell ⟨S, 5, none⟩ (.bool false)) = W' := ⟨_, rfl⟩
    rw [hWF] at hbx HBF ⊢
    clear hWF
    have q0 : WF.cell? ⟨S, 0, none⟩ = some (.int .u64 0) := hbx.cell 0
    have q1 : WF.cell? ⟨S, 1, none⟩ = some (.int .u64 0) := hbx.cell 1
    have q2 : WF.cell? ⟨S, 2, none⟩ = some (.int .u64 0) := hbx.cell 2
    have q3 : WF.cell? ⟨S, 3, none⟩ = some (.int .i64 0) := hbx.cell 3
    have q4 : WF.cell? ⟨S, 4, none⟩ = some (.int .i64 0) := hbx.cell 4
    have q5 : WF.cell? ⟨S, 5, none⟩ = some (.bool false) := hbx.cell 5
    refine bodyPost_ret (v := .tuple #[.agg #[.int .u64 0, .int .u64 0, .int .u64 0, .int .i64 0, .int .i64 0, .bool false], .int .i64 e1]) ?_ rfl ⟨rfl, HBF.out⟩
    simp [results, Try.results47, go_sem, q0, q1, q2, q3, q4, q5]
end Go.Proofs.Ytgfkjlknkbdjiaa
