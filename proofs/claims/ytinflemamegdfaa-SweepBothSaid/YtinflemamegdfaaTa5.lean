/- Merged: TmUn TmPn TmLc TmLd TmX TmY TmZ. -/
import Derived.Test.YtinflemamegdfaaTa4
import Derived.Test.YtinflemamegdfaaTa2
import Derived.Test.YtinflemamegdfaaTa3
import Derived.Deep.Cut
import Derived.Deep.QuietTactic
namespace Go.Proofs.Ytinflemamegdfaa
set_option linter.unusedVariables false
set_option linter.unusedSimpArgs false
open Go.Joins Go.ChangeShapes Go.WideShapes Go.ChangeAt Go.RowKit Go.Deep

theorem mks_del (l : List Nat) (p : Nat) : (l.map (32 * ·)).filter (fun g => g / 256 != p) = (l.filter (fun g => g / 8 != p)).map (32 * ·) := by
  induction l with
  | nil => rfl
  | cons x r ih =>
    rw [List.map_cons]
    have e : 32 * x / 256 = x / 8 := by omega
    by_cases h : x / 8 = p
    · rw [List.filter_cons_of_neg (by rw [e]; simpa using h), List.filter_cons_of_neg (by simpa using h), ih]
    · rw [List.filter_cons_of_pos (by rw [e]; simpa using h), List.filter_cons_of_pos (by simpa using h), List.map_cons, ih]
theorem look_del (cs : List (Nat × Nat)) (p x : Nat) : lookF (cs.filter (fun c => c.1 / 256 != p)) x = if x / 256 = p then 0 else lookF cs x := by
  induction cs with
  | nil => simp [lookF]
  | cons c r ih =>
    by_cases e : c.1 / 256 = p
    · rw [List.filter_cons_of_neg (by simpa using e), ih]
      by_cases hx : x / 256 = p
      · rw [if_pos hx, if_pos hx]
      · rw [if_neg hx, if_neg hx]
        conv => rhs; unfold lookF
        rw [if_neg (fun h => hx (by rw [← h]; exact e))]
    · rw [List.filter_cons_of_pos (by simpa using e)]
      conv => lhs; unfold lookF
      rw [ih]
      by_cases hx : x / 256 = p
      · rw [if_pos hx, if_neg (fun h => e (by rw [h]; exact hx)), if_pos hx]
      · rw [if_neg hx, if_neg hx]
        conv => rhs; unfold lookF
theorem CellsOk.del {cs : List (Nat × Nat)} {m : Mm} (h : CellsOk cs m) (p : Nat) : CellsOk (cs.filter (fun c => c.1 / 256 != p)) (delP m p) := by
  refine ⟨fun x => ?_, fun c hc => ?_, List.Nodup.sublist (List.Sublist.map _ List.filter_sublist) h.nd⟩
  · rw [look_del, h.look]
    rfl
  · obtain ⟨h1, h2⟩ := List.mem_filter.1 hc
    obtain ⟨h3, h4⟩ := h.in_ c h1
    exact ⟨List.mem_filter.2 ⟨h3, by simpa using h2⟩, h4⟩
theorem rdel_fin {W : World} {R : Nat} {F : Nat → Prop} {m : Mm} {na ca ka : Option Addr} {nc cc kc : Nat} {cs : List (Nat × Nat)} (h : RmO W R F m na ca ka nc cc kc cs) (p : Nat)
    (U : World) (xs : List (Nat × Nat)) (ms : List Nat) (pa va ra : Option Addr) (pc vc rcc np nk : Nat) (hk : KP W.heap.size (· = R) W U) (hxs : xs = cs.filter (fun c => c.1 / 256 != p)) (hms : ms = (m.mks.map (32 * ·)).filter (fun g => g / 256 != p)) (hnp : np = (m.pgs.filter (· != p)).length) (hnk : nk = ms.length)
    (hbx : BoxN U R #[.slice pa np pc, .slice va xs.length vc, .slice ra nk rcc, .int .i64 (m.bud : Int)])
    (hp : U.ownsRow W.heap.size 22 1 (.slice pa np pc) np (u64s (m.pgs.filter (· != p))))
    (ho : U.ownsRow W.heap.size 105 2 (.slice va xs.length vc) xs.length (cellsC xs))
    (hm : U.ownsRow W.heap.size 22 1 (.slice ra nk rcc) nk (u64s ms)) :
    RmAt U R (FN F W U) (delP m p) ∧ KP W.heap.size F W U := by
  have hR : R < W.heap.size := h.lt _ h.fr
  rw [mks_del] at hms
  subst hms
  rw [List.length_map] at hnk
  subst hnk
  subst hnp
  refine ⟨⟨pa, va, ra, pc, vc, rcc, xs, okm_delP h.ok p, hbx, ?_, rdF_own ho (Nat.le_refl _) hR, ?_, by rw [hxs]; exact h.co.del p, Or.inl h.fr, fun q hq => ?_⟩, hk.mono (Nat.le_refl _) (fun q _ e => by rw [show q = R from e]; exact h.fr)⟩
  · have := rdF_own (F := F) (R := R) hp (Nat.le_refl _) hR
    rw [Nat.mul_one] at this
    exact this
  · have := rdF_own (F := F) (R := R) hm (Nat.le_refl _) hR
    rw [Nat.mul_one] at this
    exact this
  · rcases hq with hq | hq
    · exact Nat.lt_of_lt_of_le (h.lt q hq) hk.size
    · exact hq.2
end Go.Proofs.Ytinflemamegdfaa

namespace Go.Proofs.Ytinflemamegdfaa
set_option linter.unusedVariables false
set_option linter.unusedSimpArgs false
open Go.Joins Go.ChangeShapes Go.WideShapes Go.ChangeAt Go.RowKit Go.Deep

set_option maxRecDepth 20000 in
theorem rwrite_nil (W : World) (R : Nat) (x c : Nat) (sa : Option Addr) :
    Calls Try.prog 57 #[.pointer (some ⟨R, 0, none⟩), .int .u64 (x : Int), .slice sa 0 c] W fun e W' => e = .returned (.tuple #[]) ∧ W = W' := by
  go_enter Try.func57, Try.ntmps57
  go_wp2_with fail
  go_loopw [6] (fun i wr => i = .int .i64 0 ∧ W = wr) (fun i _ => 0)
  case atStart => exact ⟨rfl, rfl⟩
  case round =>
    obtain ⟨rfl, rfl⟩ := hrel
    go_wp2_with fail
    go_end0
    exact ⟨rfl, rfl⟩
theorem putF_nil (m : Mm) (x : Int) : putF m x [] = (m, 0) := by
  unfold putF
  rw [show allB m x.toNat ([] : List Nat).length = true from rfl]
  rfl
end Go.Proofs.Ytinflemamegdfaa

namespace Go.Proofs.Ytinflemamegdfaa
set_option linter.unusedVariables false
set_option linter.unusedSimpArgs false
open Go.Joins Go.ChangeShapes Go.WideShapes Go.ChangeAt Go.RowKit Go.Deep

theorem run_midB (w : World) (b o n m l c : Nat) (hm : n ≤ m) (hl : m ≤ c) (hne : n < c) : (Instr.sliceAt 38 (.slice (some ⟨b, o, none⟩) l c) (some (.int .i64 (n : Int))) (some (.int .i64 (m : Int))) none).run Try.prog w = .ok (.slice (some ⟨b, o + n, none⟩) (m - n) (c - n)) w := by
  have hu := Try.underlying38
  have ho : (sizeOf 5).run Try.prog w = .ok 1 w := by kernel_rfl
  have he : Try.prog.elem 38 = 5 := by kernel_rfl
  rw [run_sliceAt_slice w 38 _ _ _ _ (by rw [he]; exact hu), run_slice_lh w 38 _ l c (by rw [he]; exact hu) .i64 .i64 (n : Int) (m : Int) (by omega) (by omega) (by omega), he, ho]
  simp only [Result.andThen, sliced]
  rw [Int.toNat_natCast, Int.toNat_natCast, if_neg (by omega)]
  simp [Addr.add]
theorem many_at {m : Mm} {a n k : Nat} (h : k < n) : (u8s (manyB m a n))[k]? = some (.int .u8 (m.by_ (a + k) : Int)) := by
  rw [u8s_get _ _ (by rw [manyB_len]; exact h), manyB_get]
theorem many_sub (m : Mm) (a n k j : Nat) (h : k + j ≤ n) {W : World} {b o : Nat} (hr : Rd W (some ⟨b, o, none⟩) n (u8s (manyB m a n))) : Rd W (some ⟨b, o + k, none⟩) j (u8s (manyB m (a + k) j)) := by
  refine ⟨by rw [u8s_length, manyB_len], fun h0 => ?_⟩
  obtain ⟨b', o', e, hl, hc⟩ := hr.2 (by omega)
  cases e
  refine ⟨_, _, rfl, hl, fun i hi => ?_⟩
  rw [Nat.add_assoc, hc (k + i) (by omega), many_at (by omega), many_at hi, Nat.add_assoc]
end Go.Proofs.Ytinflemamegdfaa

namespace Go.Proofs.Ytinflemamegdfaa
set_option linter.unusedVariables false
set_option linter.unusedSimpArgs false
open Go.Joins Go.ChangeShapes Go.WideShapes Go.ChangeAt Go.RowKit Go.Deep

theorem boxN_drew {W : World} {B : Nat} {cs : Array Value} (h : BoxN W B cs) : BoxN W.drew B cs := h
theorem cell_off {W : World} {g S k j : Nat} {x : Value} (hg : g ≠ S) : (W.setCell ⟨S, k, none⟩ x).cell? ⟨g, j, none⟩ = W.cell? ⟨g, j, none⟩ :=
  World.cell?_setCell_other _ _ _ _ (fun e => by have h1 := congrArg Addr.block e; simp only at h1; exact hg (by omega))
theorem keep6 {W : World} {g S j : Nat} {v : Value} (hg : g ≠ S) (x0 x1 x2 x3 x4 x5 : Value) (h : W.cell? ⟨g, j, none⟩ = some v) :
    ((((((W.setCell ⟨S, 0, none⟩ x0).setCell ⟨S, 1, none⟩ x1).setCell ⟨S, 2, none⟩ x2).setCell ⟨S, 3, none⟩ x3).setCell ⟨S, 4, none⟩ x4).setCell ⟨S, 5, none⟩ x5).drew.cell? ⟨g, j, none⟩ = some v := by
  have e : ∀ U : World, U.drew.cell? ⟨g, j, none⟩ = U.cell? ⟨g, j, none⟩ := fun U => rfl
  rw [e, cell_off hg, cell_off hg, cell_off hg, cell_off hg, cell_off hg, cell_off hg]
  exact h
set_option maxRecDepth 100000 in
set_option maxHeartbeats 1000000 in
theorem rloadC_any (W : World) (R : Nat) (F : Nat → Prop) (m : Mm) (h : RmAt W R F m) (a : Nat) (ha : a < 18446744073709551616) :
    Calls Try.prog 22 #[.pointer (some ⟨R, 0, none⟩), .int .u64 (a : Int)] W fun e W' => e = .returned (.tuple #[.agg (capC (loadC m a).1).toArray, .int .i64 (loadC m a).2]) ∧ Below W.heap.size W W' := by
  obtain ⟨S, hS⟩ : ∃ S, W.heap.size = S := ⟨_, rfl⟩
  obtain ⟨W1, hW1⟩ : ∃ W1, W.alloc (.cells #[.int .u64 0, .int .u64 0, .int .u64 0, .int .i64 0, .int .i64 0, .bool false] 24) = W1 := ⟨_, rfl⟩
  have HX : Hid (BoxN W1 S #[.int .u64 0, .int .u64 0, .int .u64 0, .int .i64 0, .int .i64 0, .bool false]) := Lib.hid (by rw [← hW1, ← hS]; exact BoxN.new W _ _)
  have HB : Hid (Below W.heap.size W W1) := Lib.hid (by rw [← hW1]; exact bAlloc (Below.refl _ _) _)
  have hM1 := h.below HB.out
  have HP := Lib.hid (rspot_any W1 R F m hM1 a ha)
  have hz1 : W1.heap.size = S + 1 := by rw [← hW1, size_alloc, hS]
  have HZ1 := Lib.hid hz1
  have hSl : W.heap.size ≤ S := by omega
  by_cases he : spotE m a = 0
  · have hl : loadC m a = (capOf m a, 0) := by unfold loadC; rw [if_pos he, Int.toNat_natCast]
    have hal : (a : Int) % 32 = 0 := by
      apply Classical.byContradiction
      intro hc
      unfold spotE at he
      rw [if_pos hc] at he
      cases he
    have hin : a / 256 ∈ m.pgs := by
      unfold spotE at he
      rw [if_neg (by omega)] at he
      by_cases hi : isIn m a = true
      · have := of_decide_eq_true hi
        rwa [show ((a : Int) / 256).toNat = a / 256 by omega] at this
      · rw [if_neg hi] at he
        cases he
    rw [hl]
    rw [he] at HP
    have hpl := h.ok.pl _ hin
    have HMA := Lib.hid (rmany_any W1 R F m hM1 a 32 (by omega) (by decide))
    have HOK := Lib.hid h.ok
    have HM1 := Lib.hid hM1
    have hcap : (capC (capOf m a)).toArray = #[.int .u64 ((ofB (manyB m a 8) : Nat) : Int), .int .u64 ((ofB (manyB m (a + 8) 8) : Nat) : Int), .int .u64 ((ofB (manyB m (a + 16) 8) : Nat) : Int), .int .i64 (m.by_ (a + 24) : Int), .int .i64 (typeOf (m.by_ (a + 25))), .bool (decide (a / 32 ∈ m.mks))] := rfl
    rw [hcap]
    obtain ⟨x0, hx0⟩ : ∃ x, ((ofB (manyB m a 8) : Nat) : Int) = x := ⟨_, rfl⟩
    obtain ⟨x1, hx1⟩ : ∃ x, ((ofB (manyB m (a + 8) 8) : Nat) : Int) = x := ⟨_, rfl⟩
    obtain ⟨x2, hx2⟩ : ∃ x, ((ofB (manyB m (a + 16) 8) : Nat) : Int) = x := ⟨_, rfl⟩
    obtain ⟨x3, hx3⟩ : ∃ x, m.by_ (a + 24) = x := ⟨_, rfl⟩
    obtain ⟨x4, hx4⟩ : ∃ x, m.by_ (a + 25) = x := ⟨_, rfl⟩
    obtain ⟨x5, hx5⟩ : ∃ x, decide (a / 32 ∈ m.mks) = x := ⟨_, rfl⟩
    rw [hx0, hx1, hx2, hx3, hx4, hx5]
    have K0 := Lib.hid hx0
    have K1 := Lib.hid hx1
    have K2 := Lib.hid hx2
    have K3 := Lib.hid hx3
    have K4 := Lib.hid hx4
    have K5 := Lib.hid hx5
    clear hl he h hM1 hin hcap hx0 hx1 hx2 hx3 hx4 hx5
    go_enter Try.func22, Try.ntmps22
    go_upto_region 1 with fail
    go_wp2_with fail
    refine HP.out.mono ?_; rintro e W0 ⟨rfl, rfl⟩
    clear hW1 hz1
    go_wp2_with fail
    refine HMA.out.mono ?_; rintro e W2 ⟨⟨ra, rc, rfl, hown⟩, hb2⟩
    obtain ⟨g, rfl, hg1, hg2, hrc⟩ : ∃ g, ra = some ⟨g, 0, none⟩ ∧ W1.heap.size ≤ g ∧ g < W2.heap.size ∧ 32 ≤ rc := by
      rcases hown.2 with ⟨_, h0⟩ | ⟨g, cap, cur, hv, hg, hb, hn, r⟩
      · cases h0
      · cases hv
        exact ⟨g, rfl, hg, (Array.getElem?_eq_some_iff.1 hb).1, hn⟩
    have hrd : Rd W2 (some ⟨g, 0, none⟩) 32 (u8s (manyB m a 32)) := by
      have := own_rd hown
      rwa [Nat.mul_one] at this
    have hM2 := HM1.out.below hb2
    have hc24 : W2.cell? ⟨g, 24, none⟩ = some (.int .u8 (m.by_ (a + 24) : Int)) := by
      obtain ⟨b', o', e', _, hc⟩ := hrd.2 (by decide)
      cases e'
      have := hc 24 (by decide)
      rw [Nat.zero_add] at this
      exact this.trans (many_at (by decide))
    have hc25 : W2.cell? ⟨g, 25, none⟩ = some (.int .u8 (m.by_ (a + 25) : Int)) := by
      obtain ⟨b', o', e', _, hc⟩ := hrd.2 (by decide)
      cases e'
      have := hc 25 (by decide)
      rw [Nat.zero_add] at this
      exact this.trans (many_at (by decide))
    have hr0 := many_sub m a 32 0 8 (by decide) hrd
    have hr8 := many_sub m a 32 8 8 (by decide) hrd
    have hr16 := many_sub m a 32 16 8 (by decide) hrd
    rw [Nat.zero_add, Nat.add_zero] at hr0
    rw [Nat.zero_add] at hr8 hr16
    have hb24 := HOK.out.by_ (a + 24)
    have hb25 := HOK.out.by_ (a + 25)
    have HO0 := Lib.hid (fun (W' : World) (hb : Below W2.heap.size W2 W') => rof_any (some ⟨g, 0, none⟩) 8 rc _ W' (hr0.below hb) (manyB_lt HOK.out _ _) (by decide))
    have HO1 := Lib.hid (fun (W' : World) (hb : Below W2.heap.size W2 W') => rof_any (some ⟨g, 8, none⟩) 8 (rc - 8) _ W' (hr8.below hb) (manyB_lt HOK.out _ _) (by decide))
    have HO2 := Lib.hid (fun (W' : World) (hb : Below W2.heap.size W2 W') => rof_any (some ⟨g, 16, none⟩) 8 (rc - 16) _ W' (hr16.below hb) (manyB_lt HOK.out _ _) (by decide))
    obtain ⟨na, ca, ka, nc, cc, kc, cs, hO⟩ := hM2
    have k2 : W2.cell? ⟨R, 2, none⟩ = some (.slice ka m.mks.length kc) := hO.box.cell 2
    have HH := Lib.hid (rhas_any ka m.mks.length kc (m.mks.map (32 * ·)) a W2 hO.rk.1 (by have := mks_len HOK.out; omega))
    have hdec : decide (a ∈ m.mks.map (32 * ·)) = decide (a / 32 ∈ m.mks) := by
      apply decide_eq_decide.2
      rw [List.mem_map]
      constructor
      · rintro ⟨x, hx, hxe⟩
        have : a / 32 = x := by omega
        rw [this]; exact hx
      · intro hx
        exact ⟨_, hx, by omega⟩
    rw [hdec] at HH
    obtain ⟨nk, hnk⟩ : ∃ x, m.mks.length = x := ⟨_, rfl⟩
    rw [K0.out] at HO0
    rw [K1.out] at HO1
    rw [K2.out] at HO2
    rw [K3.out] at hc24 hb24
    rw [K4.out] at hc25 hb25
    rw [K5.out, hnk] at HH
    rw [hnk] at k2
    have hs0 : ∀ w, (Instr.sliceAt 38 (.slice (some ⟨g, 0, none⟩) 32 rc) (some (.int .i64 0)) (some (.int .i64 8)) none).run Try.prog w = .ok (.slice (some ⟨g, 0, none⟩) 8 rc) w := fun w => run_midB w g 0 0 8 32 rc (by decide) (by omega) (by omega)
    have hs8 : ∀ w, (Instr.sliceAt 38 (.slice (some ⟨g, 0, none⟩) 32 rc) (some (.int .i64 8)) (some (.int .i64 16)) none).run Try.prog w = .ok (.slice (some ⟨g, 8, none⟩) 8 (rc - 8)) w := fun w => by
      have := run_midB w g 0 8 16 32 rc (by decide) (by omega) (by omega)
      rw [Nat.zero_add] at this
      exact this
    have hs16 : ∀ w, (Instr.sliceAt 38 (.slice (some ⟨g, 0, none⟩) 32 rc) (some (.int .i64 16)) (some (.int .i64 24)) none).run Try.prog w = .ok (.slice (some ⟨g, 16, none⟩) 8 (rc - 16)) w := fun w => by
      have := run_midB w g 0 16 24 32 rc (by decide) (by omega) (by omega)
      rw [Nat.zero_add] at this
      exact this
    have w3 : IntKind.i64.wrap (x3 : Int) = (x3 : Int) := IntWalk.i64_in _ (by omega)
    have w4 : IntKind.i64.wrap (x4 : Int) = (x4 : Int) := IntWalk.i64_in _ (by omega)
    have HX2 := Lib.hid (boxN_below HX.out hb2)
    have HB2 := Lib.hid (bTrans HB.out hb2)
    have HBD : Hid (Below W2.heap.size W2 W2.drew) := Lib.hid (below_dN W2 1)
    clear hown hrd hr0 hr8 hr16 hO hdec hnk hb2 HX HB HMA HP
    by_cases h64 : x4 ≤ 63
    · have hty : typeOf x4 = (x4 : Int) := if_pos h64
      have h64i : ¬ (63 : Int) < (x4 : Int) := by omega
      have HTY := Lib.hid hty
      clear hty
      go_wp2_with fail
      refine HH.out.mono ?_; rintro e W3 ⟨rfl, rfl⟩
      clear HH k2 hc25
      have c0 : W2.cell? ⟨S, 0, none⟩ = some (.int .u64 0) := HX2.out.cell 0
      have z0 : W2.frozen? ⟨S, 0, none⟩ = false := HX2.out.frozen 0
      have c1 : W2.cell? ⟨S, 1, none⟩ = some (.int .u64 0) := HX2.out.cell 1
      have z1 : W2.frozen? ⟨S, 1, none⟩ = false := HX2.out.frozen 1
      have c2 : W2.cell? ⟨S, 2, none⟩ = some (.int .u64 0) := HX2.out.cell 2
      have z2 : W2.frozen? ⟨S, 2, none⟩ = false := HX2.out.frozen 2
      have c3 : W2.cell? ⟨S, 3, none⟩ = some (.int .i64 0) := HX2.out.cell 3
      have z3 : W2.frozen? ⟨S, 3, none⟩ = false := HX2.out.frozen 3
      have c4 : W2.cell? ⟨S, 4, none⟩ = some (.int .i64 0) := HX2.out.cell 4
      have z4 : W2.frozen? ⟨S, 4, none⟩ = false := HX2.out.frozen 4
      have c5 : W2.cell? ⟨S, 5, none⟩ = some (.bool false) := HX2.out.cell 5
      have z5 : W2.frozen? ⟨S, 5, none⟩ = false := HX2.out.frozen 5
      have hgS : g ≠ S := by have := HZ1.out; omega
      have hc24d : W2.drew.cell? ⟨g, 24, none⟩ = some (.int .u8 (x3 : Int)) := hc24
      have hc24s : ((((((W2.setCell ⟨S, 0, none⟩ (.int .u64 x0)).setCell ⟨S, 1, none⟩ (.int .u64 x1)).setCell ⟨S, 2, none⟩ (.int .u64 x2)).setCell ⟨S, 3, none⟩ (.int .i64 (x3 : Int))).setCell ⟨S, 4, none⟩ (.int .i64 (x4 : Int))).setCell ⟨S, 5, none⟩ (.bool x5)).drew.cell? ⟨g, 24, none⟩ = some (.int .u8 (x3 : Int)) := keep6 hgS (.int .u64 x0) (.int .u64 x1) (.int .u64 x2) (.int .i64 (x3 : Int)) (.int .i64 (x4 : Int)) (.bool x5) hc24
      go_upto_region 9 with fail
      go_region_held3 (fun W => W.cell? ⟨g, 24, none⟩ = some (.int .u8 (x3 : Int)))
        (first | with_reducible exact hc24 | with_reducible exact hc24d | with_reducible exact hc24s | go_keep)
        (first
          | (go_at_call 46; (with_reducible refine (HO0.out _ HBD.out).mono ?_); rintro e W4 ⟨rfl, rfl⟩)
          | (go_at_call 46; (with_reducible refine (HO1.out _ HBD.out).mono ?_); rintro e W4 ⟨rfl, rfl⟩)
          | (go_at_call 46; (with_reducible refine (HO2.out _ HBD.out).mono ?_); rintro e W4 ⟨rfl, rfl⟩))
      all_goals
        go_wp2_with fail
        have hbx : BoxN ((((((W2.setCell ⟨S, 0, none⟩ (.int .u64 x0)).setCell ⟨S, 1, none⟩ (.int .u64 x1)).setCell ⟨S, 2, none⟩ (.int .u64 x2)).setCell ⟨S, 3, none⟩ (.int .i64 (x3 : Int))).setCell ⟨S, 4, none⟩ (.int .i64 (x4 : Int))).setCell ⟨S, 5, none⟩ (.bool x5)).drew S #[.int .u64 x0, .int .u64 x1, .int .u64 x2, .int .i64 (x3 : Int), .int .i64 (x4 : Int), .bool x5] := boxN_drew (((((((HX2.out.set 0 (.int .u64 x0)).set 1 (.int .u64 x1)).set 2 (.int .u64 x2)).set 3 (.int .i64 (x3 : Int))).set 4 (.int .i64 (x4 : Int))).set 5 (.bool x5)))
        have HBF := Lib.hid (show Below W.heap.size W ((((((W2.setCell ⟨S, 0, none⟩ (.int .u64 x0)).setCell ⟨S, 1, none⟩ (.int .u64 x1)).setCell ⟨S, 2, none⟩ (.int .u64 x2)).setCell ⟨S, 3, none⟩ (.int .i64 (x3 : Int))).setCell ⟨S, 4, none⟩ (.int .i64 (x4 : Int))).setCell ⟨S, 5, none⟩ (.bool x5)).drew from Below.drew ((below_set (below_set (below_set (below_set (below_set (below_set HB2.out hSl (.int .u64 x0)) hSl (.int .u64 x1)) hSl (.int .u64 x2)) hSl (.int .i64 (x3 : Int))) hSl (.int .i64 (x4 : Int))) hSl (.bool x5))))
        obtain ⟨WF, hWF⟩ : ∃ W', ((((((W2.setCell ⟨S, 0, none⟩ (.int .u64 x0)).setCell ⟨S, 1, none⟩ (.int .u64 x1)).setCell ⟨S, 2, none⟩ (.int .u64 x2)).setCell ⟨S, 3, none⟩ (.int .i64 (x3 : Int))).setCell ⟨S, 4, none⟩ (.int .i64 (x4 : Int))).setCell ⟨S, 5, none⟩ (.bool x5)).drew = W' := ⟨_, rfl⟩
        rw [hWF] at hbx HBF ⊢
        clear hWF
        have q0 : WF.cell? ⟨S, 0, none⟩ = some (.int .u64 x0) := hbx.cell 0
        have q1 : WF.cell? ⟨S, 1, none⟩ = some (.int .u64 x1) := hbx.cell 1
        have q2 : WF.cell? ⟨S, 2, none⟩ = some (.int .u64 x2) := hbx.cell 2
        have q3 : WF.cell? ⟨S, 3, none⟩ = some (.int .i64 (x3 : Int)) := hbx.cell 3
        have q4 : WF.cell? ⟨S, 4, none⟩ = some (.int .i64 (x4 : Int)) := hbx.cell 4
        have q5 : WF.cell? ⟨S, 5, none⟩ = some (.bool x5) := hbx.cell 5
        refine bodyPost_ret (v := .tuple #[.agg #[.int .u64 x0, .int .u64 x1, .int .u64 x2, .int .i64 (x3 : Int), .int .i64 (x4 : Int), .bool x5], .int .i64 0]) ?_ rfl ⟨by rw [HTY.out], HBF.out⟩
        simp [results, Try.results22, go_sem, q0, q1, q2, q3, q4, q5]
    · have hty : typeOf x4 = -1 := if_neg h64
      have h64i : (63 : Int) < (x4 : Int) := by omega
      have HTY := Lib.hid hty
      clear hty
      go_wp2_with fail
      refine HH.out.mono ?_; rintro e W3 ⟨rfl, rfl⟩
      clear HH k2 hc25
      have c0 : W2.cell? ⟨S, 0, none⟩ = some (.int .u64 0) := HX2.out.cell 0
      have z0 : W2.frozen? ⟨S, 0, none⟩ = false := HX2.out.frozen 0
      have c1 : W2.cell? ⟨S, 1, none⟩ = some (.int .u64 0) := HX2.out.cell 1
      have z1 : W2.frozen? ⟨S, 1, none⟩ = false := HX2.out.frozen 1
      have c2 : W2.cell? ⟨S, 2, none⟩ = some (.int .u64 0) := HX2.out.cell 2
      have z2 : W2.frozen? ⟨S, 2, none⟩ = false := HX2.out.frozen 2
      have c3 : W2.cell? ⟨S, 3, none⟩ = some (.int .i64 0) := HX2.out.cell 3
      have z3 : W2.frozen? ⟨S, 3, none⟩ = false := HX2.out.frozen 3
      have c4 : W2.cell? ⟨S, 4, none⟩ = some (.int .i64 0) := HX2.out.cell 4
      have z4 : W2.frozen? ⟨S, 4, none⟩ = false := HX2.out.frozen 4
      have c5 : W2.cell? ⟨S, 5, none⟩ = some (.bool false) := HX2.out.cell 5
      have z5 : W2.frozen? ⟨S, 5, none⟩ = false := HX2.out.frozen 5
      have hgS : g ≠ S := by have := HZ1.out; omega
      have hc24d : W2.drew.cell? ⟨g, 24, none⟩ = some (.int .u8 (x3 : Int)) := hc24
      have hc24s : ((((((W2.setCell ⟨S, 0, none⟩ (.int .u64 x0)).setCell ⟨S, 1, none⟩ (.int .u64 x1)).setCell ⟨S, 2, none⟩ (.int .u64 x2)).setCell ⟨S, 3, none⟩ (.int .i64 (x3 : Int))).setCell ⟨S, 4, none⟩ (.int .i64 (-1))).setCell ⟨S, 5, none⟩ (.bool x5)).drew.cell? ⟨g, 24, none⟩ = some (.int .u8 (x3 : Int)) := keep6 hgS (.int .u64 x0) (.int .u64 x1) (.int .u64 x2) (.int .i64 (x3 : Int)) (.int .i64 (-1)) (.bool x5) hc24
      go_upto_region 9 with fail
      go_region_held3 (fun W => W.cell? ⟨g, 24, none⟩ = some (.int .u8 (x3 : Int)))
        (first | with_reducible exact hc24 | with_reducible exact hc24d | with_reducible exact hc24s | go_keep)
        (first
          | (go_at_call 46; (with_reducible refine (HO0.out _ HBD.out).mono ?_); rintro e W4 ⟨rfl, rfl⟩)
          | (go_at_call 46; (with_reducible refine (HO1.out _ HBD.out).mono ?_); rintro e W4 ⟨rfl, rfl⟩)
          | (go_at_call 46; (with_reducible refine (HO2.out _ HBD.out).mono ?_); rintro e W4 ⟨rfl, rfl⟩))
      all_goals
        go_wp2_with fail
        have hbx : BoxN ((((((W2.setCell ⟨S, 0, none⟩ (.int .u64 x0)).setCell ⟨S, 1, none⟩ (.int .u64 x1)).setCell ⟨S, 2, none⟩ (.int .u64 x2)).setCell ⟨S, 3, none⟩ (.int .i64 (x3 : Int))).setCell ⟨S, 4, none⟩ (.int .i64 (-1))).setCell ⟨S, 5, none⟩ (.bool x5)).drew S #[.int .u64 x0, .int .u64 x1, .int .u64 x2, .int .i64 (x3 : Int), .int .i64 (-1), .bool x5] := boxN_drew (((((((HX2.out.set 0 (.int .u64 x0)).set 1 (.int .u64 x1)).set 2 (.int .u64 x2)).set 3 (.int .i64 (x3 : Int))).set 4 (.int .i64 (-1))).set 5 (.bool x5)))
        have HBF := Lib.hid (show Below W.heap.size W ((((((W2.setCell ⟨S, 0, none⟩ (.int .u64 x0)).setCell ⟨S, 1, none⟩ (.int .u64 x1)).setCell ⟨S, 2, none⟩ (.int .u64 x2)).setCell ⟨S, 3, none⟩ (.int .i64 (x3 : Int))).setCell ⟨S, 4, none⟩ (.int .i64 (-1))).setCell ⟨S, 5, none⟩ (.bool x5)).drew from Below.drew ((below_set (below_set (below_set (below_set (below_set (below_set HB2.out hSl (.int .u64 x0)) hSl (.int .u64 x1)) hSl (.int .u64 x2)) hSl (.int .i64 (x3 : Int))) hSl (.int .i64 (-1))) hSl (.bool x5))))
        obtain ⟨WF, hWF⟩ : ∃ W', ((((((W2.setCell ⟨S, 0, none⟩ (.int .u64 x0)).setCell ⟨S, 1, none⟩ (.int .u64 x1)).setCell ⟨S, 2, none⟩ (.int .u64 x2)).setCell ⟨S, 3, none⟩ (.int .i64 (x3 : Int))).setCell ⟨S, 4, none⟩ (.int .i64 (-1))).setCell ⟨S, 5, none⟩ (.bool x5)).drew = W' := ⟨_, rfl⟩
        rw [hWF] at hbx HBF ⊢
        clear hWF
        have q0 : WF.cell? ⟨S, 0, none⟩ = some (.int .u64 x0) := hbx.cell 0
        have q1 : WF.cell? ⟨S, 1, none⟩ = some (.int .u64 x1) := hbx.cell 1
        have q2 : WF.cell? ⟨S, 2, none⟩ = some (.int .u64 x2) := hbx.cell 2
        have q3 : WF.cell? ⟨S, 3, none⟩ = some (.int .i64 (x3 : Int)) := hbx.cell 3
        have q4 : WF.cell? ⟨S, 4, none⟩ = some (.int .i64 (-1)) := hbx.cell 4
        have q5 : WF.cell? ⟨S, 5, none⟩ = some (.bool x5) := hbx.cell 5
        refine bodyPost_ret (v := .tuple #[.agg #[.int .u64 x0, .int .u64 x1, .int .u64 x2, .int .i64 (x3 : Int), .int .i64 (-1), .bool x5], .int .i64 0]) ?_ rfl ⟨by rw [HTY.out], HBF.out⟩
        simp [results, Try.results22, go_sem, q0, q1, q2, q3, q4, q5]
  · have hl : loadC m a = (noCp, spotE m a) := by unfold loadC; rw [if_neg he]
    rw [hl]
    obtain ⟨e1, he1⟩ : ∃ e, spotE m a = e := ⟨_, rfl⟩
    rw [he1] at HP he ⊢
    have hcap : (capC noCp).toArray = #[.int .u64 0, .int .u64 0, .int .u64 0, .int .i64 0, .int .i64 0, .bool false] := rfl
    rw [hcap]
    clear hl h hM1 he1 hcap
    go_enter Try.func22, Try.ntmps22
    go_upto_region 1 with fail
    go_wp2_with fail
    refine HP.out.mono ?_; rintro e W0 ⟨rfl, rfl⟩
    clear hS hW1 hz1
    have c0 : W1.cell? ⟨S, 0, none⟩ = some (.int .u64 0) := HX.out.cell 0
    have z0 : W1.frozen? ⟨S, 0, none⟩ = false := HX.out.frozen 0
    have c1 : W1.cell? ⟨S, 1, none⟩ = some (.int .u64 0) := HX.out.cell 1
    have z1 : W1.frozen? ⟨S, 1, none⟩ = false := HX.out.frozen 1
    have c2 : W1.cell? ⟨S, 2, none⟩ = some (.int .u64 0) := HX.out.cell 2
    have z2 : W1.frozen? ⟨S, 2, none⟩ = false := HX.out.frozen 2
    have c3 : W1.cell? ⟨S, 3, none⟩ = some (.int .i64 0) := HX.out.cell 3
    have z3 : W1.frozen? ⟨S, 3, none⟩ = false := HX.out.frozen 3
    have c4 : W1.cell? ⟨S, 4, none⟩ = some (.int .i64 0) := HX.out.cell 4
    have z4 : W1.frozen? ⟨S, 4, none⟩ = false := HX.out.frozen 4
    have c5 : W1.cell? ⟨S, 5, none⟩ = some (.bool false) := HX.out.cell 5
    have z5 : W1.frozen? ⟨S, 5, none⟩ = false := HX.out.frozen 5
    go_wp2_with fail
    have hbx : BoxN ((((((W1.setCell ⟨S, 0, none⟩ (.int .u64 0)).setCell ⟨S, 1, none⟩ (.int .u64 0)).setCell ⟨S, 2, none⟩ (.int .u64 0)).setCell ⟨S, 3, none⟩ (.int .i64 0)).setCell ⟨S, 4, none⟩ (.int .i64 0)).setCell ⟨S, 5, none⟩ (.bool false)) S #[.int .u64 0, .int .u64 0, .int .u64 0, .int .i64 0, .int .i64 0, .bool false] := ((((((HX.out.set 0 (.int .u64 0)).set 1 (.int .u64 0)).set 2 (.int .u64 0)).set 3 (.int .i64 0)).set 4 (.int .i64 0)).set 5 (.bool false))
    have HBF := Lib.hid (show Below W.heap.size W ((((((W1.setCell ⟨S, 0, none⟩ (.int .u64 0)).setCell ⟨S, 1, none⟩ (.int .u64 0)).setCell ⟨S, 2, none⟩ (.int .u64 0)).setCell ⟨S, 3, none⟩ (.int .i64 0)).setCell ⟨S, 4, none⟩ (.int .i64 0)).setCell ⟨S, 5, none⟩ (.bool false)) from (below_set (below_set (below_set (below_set (below_set (below_set HB.out hSl (.int .u64 0)) hSl (.int .u64 0)) hSl (.int .u64 0)) hSl (.int .i64 0)) hSl (.int .i64 0)) hSl (.bool false)))
    obtain ⟨WF, hWF⟩ : ∃ W', ((((((W1.setCell ⟨S, 0, none⟩ (.int .u64 0)).setCell ⟨S, 1, none⟩ (.int .u64 0)).setCell ⟨S, 2, none⟩ (.int .u64 0)).setCell ⟨S, 3, none⟩ (.int .i64 0)).setCell ⟨S, 4, none⟩ (.int .i64 0)).setCell ⟨S, 5, none⟩ (.bool false)) = W' := ⟨_, rfl⟩
    rw [hWF] at hbx HBF ⊢
    clear hWF
    have q0 : WF.cell? ⟨S, 0, none⟩ = some (.int .u64 0) := hbx.cell 0
    have q1 : WF.cell? ⟨S, 1, none⟩ = some (.int .u64 0) := hbx.cell 1
    have q2 : WF.cell? ⟨S, 2, none⟩ = some (.int .u64 0) := hbx.cell 2
    have q3 : WF.cell? ⟨S, 3, none⟩ = some (.int .i64 0) := hbx.cell 3
    have q4 : WF.cell? ⟨S, 4, none⟩ = some (.int .i64 0) := hbx.cell 4
    have q5 : WF.cell? ⟨S, 5, none⟩ = some (.bool false) := hbx.cell 5
    refine bodyPost_ret (v := .tuple #[.agg #[.int .u64 0, .int .u64 0, .int .u64 0, .int .i64 0, .int .i64 0, .bool false], .int .i64 e1]) ?_ rfl ⟨rfl, HBF.out⟩
    simp [results, Try.results22, go_sem, q0, q1, q2, q3, q4, q5]
end Go.Proofs.Ytinflemamegdfaa

namespace Go.Proofs.Ytinflemamegdfaa
set_option linter.unusedVariables false
set_option linter.unusedSimpArgs false
open Go.Joins Go.ChangeShapes Go.WideShapes Go.ChangeAt Go.RowKit Go.Deep

theorem rlittle8 (x : Int) (W : World) (h0 : 0 ≤ x) (h1 : x < 18446744073709551616) :
    Calls Try.prog 58 #[.int .u64 x, .int .i64 8] W fun e w' => ∃ va vc, e = .returned (.slice va 8 vc) ∧ w'.ownsRow W.heap.size 5 1 (.slice va 8 vc) 8 (u8s (littleN x.toNat 8)) ∧ Below W.heap.size W w' := by
  refine (rlittle_any x 8 W h0 h1).mono ?_
  rintro e w' ⟨v, rfl, hown, hb⟩
  have e1 : littleZ x 8 = littleN x.toNat 8 := by unfold littleZ; rw [if_neg (by decide)]; rfl
  rw [e1, littleN_length] at hown
  obtain ⟨va, vc, rfl, -⟩ := own_slice hown
  exact ⟨va, vc, rfl, hown, hb⟩
/-- eight bytes of a new row are written, one step of several -/
theorem rwr_step {W1 Wk U : World} {R : Nat} {F : Nat → Prop} {mk : Mm} {va : Option Addr} {vc : Nat} {l : List Nat} (HM : RmAt Wk R (FN F W1 Wk) mk) (HK : KP W1.heap.size F W1 Wk) (hF : ∀ b, F b → b < W1.heap.size) (hb : Below Wk.heap.size Wk U)
    (hown : U.ownsRow Wk.heap.size 5 1 (.slice va 8 vc) 8 (u8s l)) (x : Nat) (hin : ∀ i, i < 8 → (x + i) / 256 ∈ mk.pgs) (hbl : ∀ b ∈ l, b < 256) :
    Calls Try.prog 57 #[.pointer (some ⟨R, 0, none⟩), .int .u64 (x : Int), .slice va 8 vc] U fun e W' => e = .returned (.tuple #[]) ∧ RmAt W' R (FN F W1 W') (wrL mk x l) ∧ KP W1.heap.size F W1 W' := by
  have hlt := HM.lt
  refine (rwrite_any U R (FN F W1 Wk) mk (HM.below hb) x 8 vc va l (by have := hown.1; rw [u8s_length] at this; omega) hin (by decide) hbl (Rd.of_own hown) (fun g off e hg => ?_)).mono ?_
  · rcases hown.2 with ⟨e0, e1⟩ | ⟨g', cap, cur, e1, hg', -⟩
    · omega
    · rw [Value.slice.injEq] at e1
      rw [e1.1] at e
      cases e
      have := hlt _ hg
      omega
  · rintro e W' ⟨rfl, h1, h2⟩
    have hsU := hb.size
    have hs1 := HK.size
    have hs2 := h2.size
    refine ⟨rfl, h1.mono (fun q hq => ?_) (fun q hq => ?_), (HK.below hb hs1).trans (h2.mono (by omega) (fun q hq e => ?_))⟩
    · rcases hq with (hq | hq) | hq
      · exact Or.inl hq
      · exact Or.inr ⟨hq.1, by omega⟩
      · exact Or.inr ⟨by omega, hq.2⟩
    · rcases hq with hq | hq
      · have := hF q hq; omega
      · exact hq.2
    · rcases e with e | e
      · exact e
      · omega
theorem ins_map (g : Nat) (l : List Nat) : ins (32 * g) (l.map (32 * ·)) = (ins g l).map (32 * ·) := by
  induction l with
  | nil => rfl
  | cons x r ih =>
    rw [List.map_cons]
    unfold ins
    by_cases h : g < x
    · rw [if_pos h, if_pos (by omega)]; rfl
    · rw [if_neg h, if_neg (by omega), ih]; rfl
/-- a tag is put -/
theorem rtag_step {W U : World} {R : Nat} {F : Nat → Prop} {m : Mm} {na ca ka : Option Addr} {nc cc kc : Nat} {cs : List (Nat × Nat)} (h : RmO W R F m na ca ka nc cc kc cs) {g : Nat} (hg : g ∉ m.mks) (hp : g / 8 ∈ m.pgs) (hb : Below W.heap.size W U) {ra : Option Addr} {rc : Nat}
    (ho : U.ownsRow W.heap.size 22 1 (.slice ra (m.mks.length + 1) rc) (m.mks.length + 1) (u64s ((ins g m.mks).map (32 * ·)))) :
    RmAt (U.setCell ⟨R, 2, none⟩ (.slice ra (m.mks.length + 1) rc)) R (FN F W (U.setCell ⟨R, 2, none⟩ (.slice ra (m.mks.length + 1) rc))) (tagP m g) ∧ KP W.heap.size F W (U.setCell ⟨R, 2, none⟩ (.slice ra (m.mks.length + 1) rc)) := by
  have hR : R < W.heap.size := h.lt _ h.fr
  have hk : KP W.heap.size (· = R) W (U.setCell ⟨R, 2, none⟩ (.slice ra (m.mks.length + 1) rc)) := (KP.of_below (· = R) hb).set ⟨R, 2, none⟩ (Or.inr rfl) _
  have hbx : BoxN (U.setCell ⟨R, 2, none⟩ (.slice ra (m.mks.length + 1) rc)) R #[.slice na m.pgs.length nc, .slice ca cs.length cc, .slice ra (m.mks.length + 1) rc, .int .i64 (m.bud : Int)] := (boxN_below h.box hb).set 2 (.slice ra (m.mks.length + 1) rc)
  have ho2 := own_kp2 ho (KP.set1 U R 2 (.slice ra (m.mks.length + 1) rc)) (by intro q hq e; have h1 : q = R := e; omega)
  have hl : (tagP m g).mks.length = m.mks.length + 1 := length_ins g m.mks
  refine ⟨⟨na, ca, ra, nc, cc, rc, cs, okm_tagP h.ok hg hp, by rw [hl]; exact hbx, ?_, ?_, ?_, ⟨h.co.look, h.co.in_, h.co.nd⟩, Or.inl h.fr, fun q hq => ?_⟩, hk.mono (Nat.le_refl _) (fun q _ e => by rw [show q = R from e]; exact h.fr)⟩
  · exact (h.rn.blocks (fun q hf hne => hk.block q (h.lt q hf) hne) hk.size).mono (fun q hf => Or.inl hf)
  · exact (h.rc.blocks (fun q hf hne => hk.block q (h.lt q hf) hne) hk.size).mono (fun q hf => Or.inl hf)
  · have := rdF_own (F := F) (R := R) ho2 (Nat.le_refl _) hR
    rw [Nat.mul_one] at this
    rw [hl]
    exact this
  · rcases hq with hq | hq
    · exact Nat.lt_of_lt_of_le (h.lt q hq) hk.size
    · exact hq.2
theorem spotE_fits {m : Mm} {a : Nat} (he : spotE m a = 0) : a % 32 = 0 ∧ a / 256 ∈ m.pgs := by
  rcases spot_place (fun _ => 0) m a with ⟨-, h1, h2, -⟩ | ⟨h, -⟩
  · exact ⟨h1, h2⟩
  · exact absurd he h
theorem putC_steps (m : Mm) (a : Nat) (c : Cp) : wrL m a (capB c) = wrL (wrL (wrL (wrL m a (littleN c.b.toNat 8)) (a + 8) (littleN c.t.toNat 8)) (a + 16) (littleN c.a.toNat 8)) (a + 24) [(c.p % 256).toNat, typeB c.y, 0, 0, 0, 0, 0, 0] := by
  unfold capB
  rw [wrL_append, wrL_append, wrL_append, littleN_length, littleN_length, littleN_length]
set_option maxRecDepth 100000 in
set_option maxHeartbeats 8000000 in
theorem rstoreC_any (W : World) (R : Nat) (F : Nat → Prop) (m : Mm) (h : RmAt W R F m) (a : Nat) (c : Cp) (ha : a < 18446744073709551616) (hc : FitC c) :
    Calls Try.prog 34 #[.pointer (some ⟨R, 0, none⟩), .int .u64 (a : Int), .agg (capC c).toArray] W fun e W' => e = .returned (.int .i64 (storeC m a c).2) ∧ RmAt W' R (FN F W W') (storeC m a c).1 ∧ KP W.heap.size F W W' := by
  obtain ⟨cb, ct, ca, cp, cy, cg⟩ := c
  obtain ⟨b0, b1, t0, t1, a0, a1⟩ := hc
  simp only at b0 b1 t0 t1 a0 a1
  have hcc : (capC ⟨cb, ct, ca, cp, cy, cg⟩).toArray = #[.int .u64 cb, .int .u64 ct, .int .u64 ca, .int .i64 cp, .int .i64 cy, .bool cg] := rfl
  rw [hcc]
  obtain ⟨S, hS⟩ : ∃ S, W.heap.size = S := ⟨_, rfl⟩
  obtain ⟨W1, hW1⟩ : ∃ W1, W.alloc (.cells #[.int .u64 cb, .int .u64 ct, .int .u64 ca, .int .i64 cp, .int .i64 cy, .bool cg] 24) = W1 := ⟨_, rfl⟩
  have HX : Hid (BoxN W1 S #[.int .u64 cb, .int .u64 ct, .int .u64 ca, .int .i64 cp, .int .i64 cy, .bool cg]) := Lib.hid (by rw [← hW1, ← hS]; exact BoxN.new W _ _)
  have hB : Below W.heap.size W W1 := by rw [← hW1]; exact bAlloc (Below.refl _ _) _
  have hz1 : W1.heap.size = S + 1 := by rw [← hW1, size_alloc, hS]
  have h1 := h.below hB
  have hFl := h.lt
  have HSP := Lib.hid (rspot_any W1 R F m h1 a ha)
  have HBW := Lib.hid hB
  have HFL : Hid (∀ b, F b → b < S) := Lib.hid (by rw [← hS]; exact hFl)
  have HW1 := Lib.hid hW1
  have HSE := Lib.hid hS
  have HM1 : Hid (RmAt W1 R (FN F W1 W1) m) := Lib.hid (h1.mono (fun q hq => Or.inl hq) (fun q hq => by rcases hq with hq | hq; exact h1.lt q hq; exact hq.2))
  -- from W1's words to W's
  have HUP : Hid (∀ (U : World) (m' : Mm), RmAt U R (FN F W1 U) m' → KP W1.heap.size F W1 U → RmAt U R (FN F W U) m' ∧ KP W.heap.size F W U) := Lib.hid (fun U m' k1 k2 => by
    have s2 := k2.size
    have s1 := hB.size
    refine ⟨k1.mono (fun q hq => ?_) (fun q hq => ?_), (KP.of_below F hB).trans (k2.mono s1 (fun _ _ e => e))⟩
    · rcases hq with hq | hq
      · exact Or.inl hq
      · exact Or.inr ⟨by omega, hq.2⟩
    · rcases hq with hq | hq
      · have := hFl q hq; omega
      · exact hq.2)
  by_cases he : spotE m a = 0
  · obtain ⟨hal, hin⟩ := spotE_fits he
    have hl : storeC m a ⟨cb, ct, ca, cp, cy, cg⟩ = (putC m a ⟨cb, ct, ca, cp, cy, cg⟩, 0) := by unfold storeC; rw [if_pos he, Int.toNat_natCast]
    rw [hl]
    rw [he] at HSP
    have hp24 := h.ok.pl _ hin
    have HWP : Hid (∀ (m : Mm) (a : Nat) (l : List Nat), (wrL m a l).pgs = m.pgs) := Lib.hid (fun m a l => (wrL_pgs m a l).1)
    have HIN : Hid (∀ k i, i < 8 → k ≤ 24 → (a + k + i) / 256 ∈ m.pgs) := Lib.hid (fun k i hi hk => by rw [show (a + k + i) / 256 = a / 256 by omega]; exact hin)
    have HA32 : Hid (((32 * (a / 32) : Nat) : Int) = (a : Int)) := Lib.hid (by omega)
    have HPP : Hid (a / 32 / 8 ∈ (wrL m a (capB ⟨cb, ct, ca, cp, cy, true⟩)).pgs) := Lib.hid (by rw [(wrL_pgs _ _ _).1, show a / 32 / 8 = a / 256 by omega]; exact hin)
    have HNG : Hid (a / 32 ∉ (wrL m a (capB ⟨cb, ct, ca, cp, cy, true⟩)).mks) := Lib.hid (fun e => by
      have haP : a = 256 * (a / 256) + 32 * (a % 256 / 32) := by omega
      rw [haP] at e
      have h9 := ((mks_wrL m (a / 256) (a % 256 / 32) _ _).1 e).2
      rw [show (256 * (a / 256) + 32 * (a % 256 / 32)) / 32 = 8 * (a / 256) + a % 256 / 32 by omega, gr_one _ _ _ (by omega) (by omega), decide_eq_true rfl] at h9
      cases h9)
    have HF1 : Hid (∀ b, F b → b < W1.heap.size) := Lib.hid (fun b hb => by have := HFL.out b hb; omega)
    have HK1 : Hid (KP W1.heap.size F W1 W1) := Lib.hid (KP.refl _ _ _)
    have cS4 : W1.cell? ⟨S, 4, none⟩ = some (.int .i64 cy) := HX.out.cell 4
    have cS0 : W1.cell? ⟨S, 0, none⟩ = some (.int .u64 cb) := HX.out.cell 0
    obtain ⟨pr, hpr⟩ : ∃ n : Nat, (cp % 256).toNat = n := ⟨_, rfl⟩
    have wp : IntKind.u8.wrap cp = (pr : Int) := by rw [IntKind.wrap_u8]; omega
    have w8 : IntKind.u64.wrap ((a : Int) + 8) = (a : Int) + 8 := by rw [IntKind.wrap_u64]; omega
    have w16 : IntKind.u64.wrap ((a : Int) + 16) = (a : Int) + 16 := by rw [IntKind.wrap_u64]; omega
    have w24 : IntKind.u64.wrap ((a : Int) + 24) = (a : Int) + 24 := by rw [IntKind.wrap_u64]; omega
    have hrest : pr < 256 := by omega
    clear hl he h h1 hB hS hW1 hz1 hcc hal hin hp24 hFl
    by_cases hcy : 0 ≤ cy
    · obtain ⟨tb, htb⟩ : ∃ n : Nat, typeB cy = n := ⟨_, rfl⟩
      have htb2 : (cy % 256).toNat = tb := by rw [← htb]; unfold typeB; rw [if_pos hcy]
      have wy : IntKind.u8.wrap cy = (tb : Int) := by rw [IntKind.wrap_u8]; omega
      have htl : tb < 256 := by omega
      clear htb2
      have HTB : Hid (typeB cy = tb) := Lib.hid htb
      have HST : Hid (wrL (wrL (wrL (wrL m a (littleN cb.toNat 8)) (a + 8) (littleN ct.toNat 8)) (a + 16) (littleN ca.toNat 8)) (a + 24) [pr, tb, 0, 0, 0, 0, 0, 0] = wrL m a (capB ⟨cb, ct, ca, cp, cy, cg⟩)) := Lib.hid (by rw [putC_steps, hpr, htb])
      have HBY : Hid (∀ b ∈ [pr, tb, 0, 0, 0, 0, 0, 0], b < 256) := Lib.hid (fun b hb => by
        simp only [List.mem_cons, List.not_mem_nil, or_false] at hb
        rcases hb with h | h | h | h | h | h | h | h <;> omega)
      clear htb hpr hrest
      go_enter Try.func34, Try.ntmps34
      go_upto_region 1 with fail
      rw [HW1.out, HSE.out]
      go_wp2_with fail
      refine HSP.out.mono ?_; rintro e W0 ⟨rfl, rfl⟩
      go_wp2_with fail
      refine (rlittle8 cb W1 b0 b1).mono ?_; rintro e U0 ⟨va, vc, rfl, hown, hb⟩
      have HC := Lib.hid (rwr_step HM1.out HK1.out HF1.out hb hown a (fun i hi => by first | exact HIN.out 0 i hi (by decide) | (simp only [HWP.out]; exact HIN.out 0 i hi (by decide))) (littleN_lt _ _))
      clear hown hb
      go_wp2_with fail
      refine HC.out.mono ?_; rintro e W2 ⟨rfl, hm, hk⟩
      have HM1 := Lib.hid hm
      have HK1 := Lib.hid hk
      have cS : W2.cell? ⟨S, 1, none⟩ = some (.int .u64 ct) := (HX.out.kp hk HX.out.lt (fun e => Nat.lt_irrefl _ (HFL.out S e))).cell 1
      clear hm hk HC
      go_wp2_with fail
      refine (rlittle8 ct W2 t0 t1).mono ?_; rintro e U0 ⟨va, vc, rfl, hown, hb⟩
      have HC := Lib.hid (rwr_step HM1.out HK1.out HF1.out hb hown (a + 8) (fun i hi => by first | exact HIN.out 8 i hi (by decide) | (simp only [HWP.out]; exact HIN.out 8 i hi (by decide))) (littleN_lt _ _))
      rw [show ((a + 8 : Nat) : Int) = (a : Int) + 8 by omega] at HC
      clear hown hb
      go_wp2_with fail
      refine HC.out.mono ?_; rintro e W3 ⟨rfl, hm, hk⟩
      have HM1 := Lib.hid hm
      have HK1 := Lib.hid hk
      have cS : W3.cell? ⟨S, 2, none⟩ = some (.int .u64 ca) := (HX.out.kp hk HX.out.lt (fun e => Nat.lt_irrefl _ (HFL.out S e))).cell 2
      clear hm hk HC
      go_wp2_with fail
      refine (rlittle8 ca W3 a0 a1).mono ?_; rintro e U0 ⟨va, vc, rfl, hown, hb⟩
      have HC := Lib.hid (rwr_step HM1.out HK1.out HF1.out hb hown (a + 16) (fun i hi => by first | exact HIN.out 16 i hi (by decide) | (simp only [HWP.out]; exact HIN.out 16 i hi (by decide))) (littleN_lt _ _))
      rw [show ((a + 16 : Nat) : Int) = (a : Int) + 16 by omega] at HC
      clear hown hb
      go_wp2_with fail
      refine HC.out.mono ?_; rintro e W4 ⟨rfl, hm, hk⟩
      have HM1 := Lib.hid hm
      have HK1 := Lib.hid hk
      have cS : W4.cell? ⟨S, 3, none⟩ = some (.int .i64 cp) := (HX.out.kp hk HX.out.lt (fun e => Nat.lt_irrefl _ (HFL.out S e))).cell 3
      clear hm hk HC
      obtain ⟨V0, hV0⟩ : ∃ V, W4.alloc (.cells #[.int .u8 (pr : Int), .int .u8 (tb : Int), .int .u8 0, .int .u8 0, .int .u8 0, .int .u8 0, .int .u8 0, .int .u8 0] 5) = V := ⟨_, rfl⟩
      have hbv : Below W4.heap.size W4 V0 := by rw [← hV0]; exact bAlloc (Below.refl _ _) _
      have how : V0.ownsRow W4.heap.size 5 1 (.slice (some ⟨W4.heap.size, 0, none⟩) 8 8) 8 (u8s [pr, tb, 0, 0, 0, 0, 0, 0]) := by
        rw [← hV0]
        exact World.ownsRow_lit (base := W4.heap.size) (e := 5) (size := 1) W4 #[.int .u8 (pr : Int), .int .u8 (tb : Int), .int .u8 0, .int .u8 0, .int .u8 0, .int .u8 0, .int .u8 0, .int .u8 0] 8 (Nat.le_refl _) (by show 8 ≤ maxLen; decide) rfl
      have HC := Lib.hid (rwr_step HM1.out HK1.out HF1.out hbv how (a + 24) (fun i hi => by simp only [HWP.out]; exact HIN.out 24 i hi (by decide)) HBY.out)
      rw [show ((a + 24 : Nat) : Int) = (a : Int) + 24 by omega, HST.out] at HC
      clear how hbv
      go_wp2_with fail
      refine HC.out.mono ?_; rintro e W5 ⟨rfl, hm, hk⟩
      have HM1 := Lib.hid hm
      have HK1 := Lib.hid hk
      have cS5 : W5.cell? ⟨S, 5, none⟩ = some (.bool cg) := (HX.out.kp hk HX.out.lt (fun e => Nat.lt_irrefl _ (HFL.out S e))).cell 5
      clear hm hk HC hV0 cS cS4
      cases cg with
      | false =>
        go_wp2_with fail
        go_ret
        obtain ⟨k1, k2⟩ := HUP.out _ _ HM1.out HK1.out
        exact ⟨rfl, k1, k2⟩
      | true =>
        obtain ⟨na, cA, ka, nc, cc, kc, cs, hO⟩ := HM1.out
        have c2 : W5.cell? ⟨R, 2, none⟩ = some (.slice ka (wrL m a (capB ⟨cb, ct, ca, cp, cy, true⟩)).mks.length kc) := hO.box.cell 2
        have HBX := Lib.hid hO.box
        have hml := mks_len hO.ok
        have hrk := hO.rk.1
        have HTG := Lib.hid (fun (U : World) (hb : Below W5.heap.size W5 U) (ra : Option Addr) (rc : Nat) ho => rtag_step hO (g := a / 32) HNG.out HPP.out hb (ra := ra) (rc := rc) ho)
        have HMC : Hid (tagP (wrL m a (capB ⟨cb, ct, ca, cp, cy, true⟩)) (a / 32) = putC m a ⟨cb, ct, ca, cp, cy, true⟩) := Lib.hid rfl
        obtain ⟨mk, hmk⟩ : ∃ z, wrL m a (capB ⟨cb, ct, ca, cp, cy, true⟩) = z := ⟨_, rfl⟩
        rw [hmk] at c2 HBX hml hrk HTG HMC
        have hc5 := rput_any ka mk.mks.length kc (mk.mks.map (32 * ·)) (32 * (a / 32)) W5 hrk (by omega)
        rw [ins_map, List.length_map, length_ins, HA32.out] at hc5
        have HC := Lib.hid hc5
        obtain ⟨z, hz⟩ : ∃ z, mk.mks.length = z := ⟨_, rfl⟩
        rw [hz] at c2 HBX HTG HC
        clear hO hml hrk hmk hz hc5
        go_wp2_with fail
        refine HC.out.mono ?_; rintro e U ⟨⟨ra, rc, rfl, hown⟩, hb⟩
        have hst := HTG.out U hb ra rc hown
        have hbx := boxN_below HBX.out hb
        have t2 : U.cell? ⟨R, 2, none⟩ = some (.slice ka z kc) := hbx.cell 2
        have tz : U.frozen? ⟨R, 2, none⟩ = false := hbx.frozen 2
        have HST2 := Lib.hid hst
        clear hown hb hst hbx c2
        go_wp2_with fail
        obtain ⟨W6, hW6⟩ : ∃ W6, U.setCell ⟨R, 2, none⟩ (.slice ra (z + 1) rc) = W6 := ⟨_, rfl⟩
        rw [hW6] at HST2 ⊢
        clear hW6 t2 tz
        go_ret
        have hs3 := HST2.out.2.size
        have hs5 := HK1.out.size
        have hm6 : RmAt W6 R (FN F W1 W6) (putC m a ⟨cb, ct, ca, cp, cy, true⟩) := by
          have h9 := HST2.out.1
          rw [HMC.out] at h9
          exact h9.mono (fn_step hs5 hs3) (fun q hq => by
            rcases hq with hq | hq
            · have := HF1.out q hq; omega
            · exact hq.2)
        obtain ⟨k1, k2⟩ := HUP.out _ _ hm6 (HK1.out.trans (HST2.out.2.mono hs5 (fun q hq e => by
          rcases e with e | e
          · exact e
          · omega)))
        exact ⟨rfl, k1, k2⟩
    · obtain ⟨tb, htb0⟩ : ∃ n : Nat, n = 255 := ⟨_, rfl⟩
      have htb : typeB cy = tb := by unfold typeB; rw [if_neg hcy, htb0]
      have htl : tb < 256 := by omega
      subst htb0
      have HTB : Hid (typeB cy = 255) := Lib.hid htb
      have HST : Hid (wrL (wrL (wrL (wrL m a (littleN cb.toNat 8)) (a + 8) (littleN ct.toNat 8)) (a + 16) (littleN ca.toNat 8)) (a + 24) [pr, 255, 0, 0, 0, 0, 0, 0] = wrL m a (capB ⟨cb, ct, ca, cp, cy, cg⟩)) := Lib.hid (by rw [putC_steps, hpr, htb])
      have HBY : Hid (∀ b ∈ [pr, 255, 0, 0, 0, 0, 0, 0], b < 256) := Lib.hid (fun b hb => by
        simp only [List.mem_cons, List.not_mem_nil, or_false] at hb
        rcases hb with h | h | h | h | h | h | h | h <;> omega)
      clear htb hpr hrest
      go_enter Try.func34, Try.ntmps34
      go_upto_region 1 with fail
      rw [HW1.out, HSE.out]
      go_wp2_with fail
      refine HSP.out.mono ?_; rintro e W0 ⟨rfl, rfl⟩
      go_wp2_with fail
      refine (rlittle8 cb W1 b0 b1).mono ?_; rintro e U0 ⟨va, vc, rfl, hown, hb⟩
      have HC := Lib.hid (rwr_step HM1.out HK1.out HF1.out hb hown a (fun i hi => by first | exact HIN.out 0 i hi (by decide) | (simp only [HWP.out]; exact HIN.out 0 i hi (by decide))) (littleN_lt _ _))
      clear hown hb
      go_wp2_with fail
      refine HC.out.mono ?_; rintro e W2 ⟨rfl, hm, hk⟩
      have HM1 := Lib.hid hm
      have HK1 := Lib.hid hk
      have cS : W2.cell? ⟨S, 1, none⟩ = some (.int .u64 ct) := (HX.out.kp hk HX.out.lt (fun e => Nat.lt_irrefl _ (HFL.out S e))).cell 1
      clear hm hk HC
      go_wp2_with fail
      refine (rlittle8 ct W2 t0 t1).mono ?_; rintro e U0 ⟨va, vc, rfl, hown, hb⟩
      have HC := Lib.hid (rwr_step HM1.out HK1.out HF1.out hb hown (a + 8) (fun i hi => by first | exact HIN.out 8 i hi (by decide) | (simp only [HWP.out]; exact HIN.out 8 i hi (by decide))) (littleN_lt _ _))
      rw [show ((a + 8 : Nat) : Int) = (a : Int) + 8 by omega] at HC
      clear hown hb
      go_wp2_with fail
      refine HC.out.mono ?_; rintro e W3 ⟨rfl, hm, hk⟩
      have HM1 := Lib.hid hm
      have HK1 := Lib.hid hk
      have cS : W3.cell? ⟨S, 2, none⟩ = some (.int .u64 ca) := (HX.out.kp hk HX.out.lt (fun e => Nat.lt_irrefl _ (HFL.out S e))).cell 2
      clear hm hk HC
      go_wp2_with fail
      refine (rlittle8 ca W3 a0 a1).mono ?_; rintro e U0 ⟨va, vc, rfl, hown, hb⟩
      have HC := Lib.hid (rwr_step HM1.out HK1.out HF1.out hb hown (a + 16) (fun i hi => by first | exact HIN.out 16 i hi (by decide) | (simp only [HWP.out]; exact HIN.out 16 i hi (by decide))) (littleN_lt _ _))
      rw [show ((a + 16 : Nat) : Int) = (a : Int) + 16 by omega] at HC
      clear hown hb
      go_wp2_with fail
      refine HC.out.mono ?_; rintro e W4 ⟨rfl, hm, hk⟩
      have HM1 := Lib.hid hm
      have HK1 := Lib.hid hk
      have cS : W4.cell? ⟨S, 3, none⟩ = some (.int .i64 cp) := (HX.out.kp hk HX.out.lt (fun e => Nat.lt_irrefl _ (HFL.out S e))).cell 3
      clear hm hk HC
      obtain ⟨V0, hV0⟩ : ∃ V, W4.alloc (.cells #[.int .u8 (pr : Int), .int .u8 255, .int .u8 0, .int .u8 0, .int .u8 0, .int .u8 0, .int .u8 0, .int .u8 0] 5) = V := ⟨_, rfl⟩
      have hbv : Below W4.heap.size W4 V0 := by rw [← hV0]; exact bAlloc (Below.refl _ _) _
      have how : V0.ownsRow W4.heap.size 5 1 (.slice (some ⟨W4.heap.size, 0, none⟩) 8 8) 8 (u8s [pr, 255, 0, 0, 0, 0, 0, 0]) := by
        rw [← hV0]
        exact World.ownsRow_lit (base := W4.heap.size) (e := 5) (size := 1) W4 #[.int .u8 (pr : Int), .int .u8 255, .int .u8 0, .int .u8 0, .int .u8 0, .int .u8 0, .int .u8 0, .int .u8 0] 8 (Nat.le_refl _) (by show 8 ≤ maxLen; decide) rfl
      have HC := Lib.hid (rwr_step HM1.out HK1.out HF1.out hbv how (a + 24) (fun i hi => by simp only [HWP.out]; exact HIN.out 24 i hi (by decide)) HBY.out)
      rw [show ((a + 24 : Nat) : Int) = (a : Int) + 24 by omega, HST.out] at HC
      clear how hbv
      go_wp2_with fail
      refine HC.out.mono ?_; rintro e W5 ⟨rfl, hm, hk⟩
      have HM1 := Lib.hid hm
      have HK1 := Lib.hid hk
      have cS5 : W5.cell? ⟨S, 5, none⟩ = some (.bool cg) := (HX.out.kp hk HX.out.lt (fun e => Nat.lt_irrefl _ (HFL.out S e))).cell 5
      clear hm hk HC hV0 cS cS4
      cases cg with
      | false =>
        go_wp2_with fail
        go_ret
        obtain ⟨k1, k2⟩ := HUP.out _ _ HM1.out HK1.out
        exact ⟨rfl, k1, k2⟩
      | true =>
        obtain ⟨na, cA, ka, nc, cc, kc, cs, hO⟩ := HM1.out
        have c2 : W5.cell? ⟨R, 2, none⟩ = some (.slice ka (wrL m a (capB ⟨cb, ct, ca, cp, cy, true⟩)).mks.length kc) := hO.box.cell 2
        have HBX := Lib.hid hO.box
        have hml := mks_len hO.ok
        have hrk := hO.rk.1
        have HTG := Lib.hid (fun (U : World) (hb : Below W5.heap.size W5 U) (ra : Option Addr) (rc : Nat) ho => rtag_step hO (g := a / 32) HNG.out HPP.out hb (ra := ra) (rc := rc) ho)
        have HMC : Hid (tagP (wrL m a (capB ⟨cb, ct, ca, cp, cy, true⟩)) (a / 32) = putC m a ⟨cb, ct, ca, cp, cy, true⟩) := Lib.hid rfl
        obtain ⟨mk, hmk⟩ : ∃ z, wrL m a (capB ⟨cb, ct, ca, cp, cy, true⟩) = z := ⟨_, rfl⟩
        rw [hmk] at c2 HBX hml hrk HTG HMC
        have hc5 := rput_any ka mk.mks.length kc (mk.mks.map (32 * ·)) (32 * (a / 32)) W5 hrk (by omega)
        rw [ins_map, List.length_map, length_ins, HA32.out] at hc5
        have HC := Lib.hid hc5
        obtain ⟨z, hz⟩ : ∃ z, mk.mks.length = z := ⟨_, rfl⟩
        rw [hz] at c2 HBX HTG HC
        clear hO hml hrk hmk hz hc5
        go_wp2_with fail
        refine HC.out.mono ?_; rintro e U ⟨⟨ra, rc, rfl, hown⟩, hb⟩
        have hst := HTG.out U hb ra rc hown
        have hbx := boxN_below HBX.out hb
        have t2 : U.cell? ⟨R, 2, none⟩ = some (.slice ka z kc) := hbx.cell 2
        have tz : U.frozen? ⟨R, 2, none⟩ = false := hbx.frozen 2
        have HST2 := Lib.hid hst
        clear hown hb hst hbx c2
        go_wp2_with fail
        obtain ⟨W6, hW6⟩ : ∃ W6, U.setCell ⟨R, 2, none⟩ (.slice ra (z + 1) rc) = W6 := ⟨_, rfl⟩
        rw [hW6] at HST2 ⊢
        clear hW6 t2 tz
        go_ret
        have hs3 := HST2.out.2.size
        have hs5 := HK1.out.size
        have hm6 : RmAt W6 R (FN F W1 W6) (putC m a ⟨cb, ct, ca, cp, cy, true⟩) := by
          have h9 := HST2.out.1
          rw [HMC.out] at h9
          exact h9.mono (fn_step hs5 hs3) (fun q hq => by
            rcases hq with hq | hq
            · have := HF1.out q hq; omega
            · exact hq.2)
        obtain ⟨k1, k2⟩ := HUP.out _ _ hm6 (HK1.out.trans (HST2.out.2.mono hs5 (fun q hq e => by
          rcases e with e | e
          · exact e
          · omega)))
        exact ⟨rfl, k1, k2⟩
  · have hl : storeC m a ⟨cb, ct, ca, cp, cy, cg⟩ = (m, spotE m a) := by unfold storeC; rw [if_neg he]
    rw [hl]
    obtain ⟨e1, he1⟩ : ∃ e, spotE m a = e := ⟨_, rfl⟩
    rw [he1] at HSP he ⊢
    clear hl he1 h h1 hB hS hW1 hz1 hcc
    go_enter Try.func34, Try.ntmps34
    go_upto_region 1 with fail
    rw [HW1.out, HSE.out]
    go_wp2_with fail
    refine HSP.out.mono ?_; rintro e W2 ⟨rfl, rfl⟩
    go_wp2_with fail
    go_ret
    obtain ⟨k1, k2⟩ := HUP.out _ _ HM1.out (KP.refl _ _ _)
    exact ⟨rfl, k1, k2⟩
end Go.Proofs.Ytinflemamegdfaa

namespace Go.Proofs.Ytinflemamegdfaa
set_option linter.unusedVariables false
set_option linter.unusedSimpArgs false
open Go.Joins Go.ChangeShapes Go.WideShapes Go.ChangeAt Go.RowKit Go.Deep

theorem usame_any (a b : Option Addr) (n c m d : Nat) (l r : List Nat) (w : World) (hl : Rd w a n (u64s l)) (hr : Rd w b m (u64s r)) (hn : n < 9223372036854775808) (hm : m < 9223372036854775808) :
    Calls Try.prog 19 #[.slice a n c, .slice b m d] w fun e w' => e = .returned (.bool (decide (l = r))) ∧ Below w.heap.size w w' := by
  have h1 : l.length = n := by rw [← u64s_length]; exact hl.1
  have h2 : r.length = m := by rw [← u64s_length]; exact hr.1
  obtain ⟨q, hq⟩ : ∃ q, decide (l = r) = q := ⟨_, rfl⟩
  rw [hq]
  have HQ := Lib.hid hq
  clear hq
  by_cases hnm : n = m
  · subst hnm
    have HL := Lib.hid hl
    have HR := Lib.hid hr
    have H1 := Lib.hid h1
    have H2 := Lib.hid h2
    clear hl hr h1 h2
    go_enter Try.func19, Try.ntmps19
    go_wp2_with fail
    go_loopw [5] (fun i wr => ∃ k : Nat, i = .int .i64 k ∧ k ≤ n ∧ Hid (l.take k = r.take k) ∧ Hid (Below w.heap.size w wr)) (fun i _ => n - (intOf i).toNat)
    case atStart => exact ⟨0, rfl, by omega, Lib.hid rfl, Lib.hid (Below.refl _ _)⟩
    case round =>
      obtain ⟨k, rfl, hk, HT, HB⟩ := hrel
      by_cases hlt : k < n
      · have k1 : k < l.length := by rw [H1.out]; exact hlt
        have k2 : k < r.length := by rw [H2.out]; exact hlt
        obtain ⟨b1, o1, rfl, _, c1⟩ := (HL.out.below HB.out).at_ hlt
        obtain ⟨b2, o2, rfl, _, c2⟩ := (HR.out.below HB.out).at_ hlt
        rw [u64s_get l k k1] at c1
        rw [u64s_get r k k2] at c2
        have t1 := List.take_succ_eq_append_getElem k1
        have t2 := List.take_succ_eq_append_getElem k2
        have HNE := Lib.hid (fun (h : l[k] ≠ r[k]) (e : l = r) => h (by subst e; rfl))
        obtain ⟨x, hx⟩ : ∃ x, l[k] = x := ⟨_, rfl⟩
        obtain ⟨y, hy⟩ : ∃ y, r[k] = y := ⟨_, rfl⟩
        rw [hx] at c1 t1 HNE
        rw [hy] at c2 t2 HNE
        have T1 := Lib.hid t1
        have T2 := Lib.hid t2
        have kk0 : (0 : Int) ≤ (k : Int) := by omega
        have kk1 : (k : Int) < (n : Int) := by omega
        clear hx hy t1 t2 k1 k2
        by_cases hxy : x = y
        · subst hxy
          have HT2 : Hid (l.take (k + 1) = r.take (k + 1)) := Lib.hid (by rw [T1.out, T2.out, HT.out])
          go_wp2_with fail
          go_quiet (fail)
          go_wp2_with fail
          go_roundw
          case rel => exact ⟨k + 1, by go_num, by omega, HT2, Lib.hid (bTrans HB.out (below_dN _ _))⟩
          case measure => simp [intOf]; omega
        · have hqf : false = q := by rw [← HQ.out]; exact (decide_eq_false (HNE.out hxy)).symm
          subst hqf
          have n1 : ((x : Int) != (y : Int)) = true := by simp; omega
          have n2 : ¬ (x : Int) = (y : Int) := by omega
          have n3 : ((x : Int) == (y : Int)) = false := by simp; omega
          go_wp2_with fail
          go_quiet (fail)
          go_wp2_with fail
          go_ret
          exact ⟨rfl, bTrans HB.out (below_dN _ _)⟩
      · obtain rfl : n = k := by omega
        have hqt : true = q := by
          rw [← HQ.out]
          symm
          refine decide_eq_true ?_
          have := HT.out
          rwa [List.take_of_length_le (by rw [H1.out]; exact Nat.le_refl _), List.take_of_length_le (by rw [H2.out]; exact Nat.le_refl _)] at this
        subst hqt
        go_wp2_with fail
        go_ret
        exact ⟨rfl, HB.out⟩
  · have hqf : false = q := by rw [← HQ.out]; exact (decide_eq_false (fun e => hnm (by rw [← h1, ← h2, e]))).symm
    subst hqf
    have n1 : ((n : Int) != (m : Int)) = true := by simp; omega
    have n2 : ¬ (n : Int) = (m : Int) := by omega
    clear h1 h2 hl hr
    go_enter Try.func19, Try.ntmps19
    go_wp2_with fail
    go_ret
    exact ⟨rfl, Below.refl _ _⟩
end Go.Proofs.Ytinflemamegdfaa

namespace Go.Proofs.Ytinflemamegdfaa
set_option linter.unusedVariables false
set_option linter.unusedSimpArgs false
open Go.Joins Go.ChangeShapes Go.WideShapes Go.ChangeAt Go.RowKit Go.Deep

def rightB (c : Cp) : Bool := decide (0 ≤ c.p) && (decide (c.p ≤ 255) && (decide (-1 ≤ c.y) && decide (c.y ≤ 63)))
theorem right_any (c : Cp) (w : World) :
    Calls Try.prog 8 #[.agg (capC c).toArray] w fun e w' => e = .returned (.bool (rightB c)) ∧ Below w.heap.size w w' := by
  obtain ⟨cb, ct, ca, cp, cy, cg⟩ := c
  have hcc : (capC ⟨cb, ct, ca, cp, cy, cg⟩).toArray = #[.int .u64 cb, .int .u64 ct, .int .u64 ca, .int .i64 cp, .int .i64 cy, .bool cg] := rfl
  rw [hcc]
  clear hcc
  obtain ⟨q, hq⟩ : ∃ q, rightB ⟨cb, ct, ca, cp, cy, cg⟩ = q := ⟨_, rfl⟩
  rw [hq]
  have hq2 : (decide (0 ≤ cp) && (decide (cp ≤ 255) && (decide (-1 ≤ cy) && decide (cy ≤ 63)))) = q := hq
  clear hq
  by_cases a1 : 0 ≤ cp
  · by_cases a2 : cp ≤ 255
    · by_cases a3 : -1 ≤ cy
      · by_cases a4 : cy ≤ 63
        · have hqt : true = q := by rw [← hq2, decide_eq_true a1, decide_eq_true a2, decide_eq_true a3, decide_eq_true a4]; rfl
          subst hqt
          clear hq2
          go_enter Try.func8, Try.ntmps8
          go_wp2_with fail
          go_ret
          exact ⟨rfl, bAlloc (Below.refl _ _) _⟩
        · have hqf : false = q := by rw [← hq2, decide_eq_false a4]; simp
          subst hqf
          clear hq2
          go_enter Try.func8, Try.ntmps8
          go_wp2_with fail
          go_ret
          exact ⟨rfl, bAlloc (Below.refl _ _) _⟩
      · have hqf : false = q := by rw [← hq2, decide_eq_false a3]; simp
        subst hqf
        clear hq2
        go_enter Try.func8, Try.ntmps8
        go_wp2_with fail
        go_ret
        exact ⟨rfl, bAlloc (Below.refl _ _) _⟩
    · have hqf : false = q := by rw [← hq2, decide_eq_false a2]; simp
      subst hqf
      clear hq2
      go_enter Try.func8, Try.ntmps8
      go_wp2_with fail
      go_ret
      exact ⟨rfl, bAlloc (Below.refl _ _) _⟩
  · have hqf : false = q := by rw [← hq2, decide_eq_false a1]; simp
    subst hqf
    clear hq2
    go_enter Try.func8, Try.ntmps8
    go_wp2_with fail
    go_ret
    exact ⟨rfl, bAlloc (Below.refl _ _) _⟩
end Go.Proofs.Ytinflemamegdfaa

