/- The program's memory: a capability is stored: contract. -/
import Derived.Test.YtgfkjlknkbdjiaaTmO
namespace Go.Proofs.Ytgfkjlknkbdjiaa
set_option linter.unusedVariables false
set_option linter.unusedSimpArgs false
open Go.Joins Go.ChangeShapes Go.WideShapes Go.ChangeAt Go.RowKit Go.Deep

/-- a word's eight bytes are copied into a page -/
theorem copy_little (W : World) (ty : TypeId) (q o dl dc vc base : Nat) (va : Option Addr) (b : Nat → Nat) (t : Nat → Bool) (w : Nat) (hq : BoxN W q (pgC b t).toArray) (hown : W.ownsRow base 5 1 (.slice va 8 vc) 8 (u8s (littleN w 8))) (hb : q < base) (ho : o + 8 ≤ 256) (hdl : 8 ≤ dl) :
    ∃ w', (Builtin.copy_ #[51, 51] ty #[.slice (some ⟨q, o, none⟩) dl dc, .slice va 8 vc]).run Try.prog W = .ok (goInt 8) w' ∧ BoxN w' q (pgC (updB b o (littleN w 8)) t).toArray ∧ KP W.heap.size (· = q) W w' := by
  have hr := Rd.of_own hown
  obtain ⟨ab, ao, rfl, -, -⟩ := hr.2 (by decide)
  have hl : (u8s (littleN w 8)).length = 8 := by rw [u8s_length, littleN_length]
  obtain ⟨w', h1, h2, h3⟩ := run_copyB W ty q o dl dc ⟨ab, ao, none⟩ 8 vc (pgC b t) (u8s (littleN w 8)) hq (by rw [hl]; exact (Nat.min_eq_left hdl).symm) (rd_src hr) (by rw [hl, pgC_len]; omega) (u8s_one _)
  rw [hl] at h1
  rw [pgC_splice b t o (littleN w 8) (by rw [littleN_length]; exact ho)] at h2
  exact ⟨w', h1, h2, h3⟩
theorem little8 (x : Int) (W : World) (h0 : 0 ≤ x) (h1 : x < 18446744073709551616) :
    Calls Try.prog 34 #[.int .u64 x, .int .i64 8] W fun e w' => ∃ va vc, e = .returned (.slice va 8 vc) ∧ w'.ownsRow W.heap.size 5 1 (.slice va 8 vc) 8 (u8s (littleN x.toNat 8)) ∧ Below W.heap.size W w' := by
  refine (little_any x 8 W h0 h1).mono ?_
  rintro e w' ⟨v, rfl, hown, hb⟩
  have e1 : littleZ x 8 = littleN x.toNat 8 := by unfold littleZ; rw [if_neg (by decide)]; rfl
  rw [e1, littleN_length] at hown
  obtain ⟨va, vc, rfl, -⟩ := own_slice hown
  exact ⟨va, vc, rfl, hown, hb⟩
theorem copy_step {W1 W4 W5 : World} {q o dl dc vc : Nat} {va : Option Addr} {b : Nat → Nat} {t : Nat → Bool} {w : Nat} (ty : TypeId) (hq : BoxN W4 q (pgC b t).toArray) (hk : KP W1.heap.size (· = q) W1 W4) (hb : Below W4.heap.size W4 W5) (hown : W5.ownsRow W4.heap.size 5 1 (.slice va 8 vc) 8 (u8s (littleN w 8))) (ho : o + 8 ≤ 256) (hdl : 8 ≤ dl) :
    ∃ W6, (Builtin.copy_ #[51, 51] ty #[.slice (some ⟨q, o, none⟩) dl dc, .slice va 8 vc]).run Try.prog W5 = .ok (goInt 8) W6 ∧ BoxN W6 q (pgC (updB b o (littleN w 8)) t).toArray ∧ KP W1.heap.size (· = q) W1 W6 := by
  obtain ⟨W6, h1, h2, h3⟩ := copy_little W5 ty q o dl dc vc W4.heap.size va b t w (boxN_below hq hb) hown hq.lt ho hdl
  exact ⟨W6, h1, h2, (hk.below hb hk.size).trans (h3.mono (Nat.le_trans hk.size hb.size) (fun _ _ e => e))⟩
/-- a capability that there can be -/
structure FitC (c : Cp) : Prop where
  b0 : 0 ≤ c.b
  b1 : c.b < 18446744073709551616
  t0 : 0 ≤ c.t
  t1 : c.t < 18446744073709551616
  a0 : 0 ≤ c.a
  a1 : c.a < 18446744073709551616
set_option maxRecDepth 100000 in
set_option maxHeartbeats 4000000 in
theorem storeC_any (W : World) (M : Nat) (F : Nat → Prop) (m : Mm) (h : MemAt W M F m) (a : Nat) (c : Cp) (ha : a < 18446744073709551616) (hc : FitC c) :
    Calls Try.prog 19 #[.pointer (some ⟨M, 0, none⟩), .int .u64 (a : Int), .agg (capC c).toArray] W fun e W' => e = .returned (.int .i64 (storeC m a c).2) ∧ MemAt W' M F (storeC m a c).1 ∧ KP W.heap.size F W W' := by
  obtain ⟨B, D, pb, h⟩ := h
  obtain ⟨cb, ct, ca, cp, cy, cg⟩ := c
  obtain ⟨b0, b1, t0, t1, a0, a1⟩ := hc
  simp only at b0 b1 t0 t1 a0 a1
  have hcc : (capC ⟨cb, ct, ca, cp, cy, cg⟩).toArray = #[.int .u64 cb, .int .u64 ct, .int .u64 ca, .int .i64 cp, .int .i64 cy, .bool cg] := rfl
  rw [hcc]
  obtain ⟨S, hS⟩ : ∃ S, W.heap.size = S := ⟨_, rfl⟩
  obtain ⟨W1, hW1⟩ : ∃ W1, W.alloc (.cells #[.int .u64 cb, .int .u64 ct, .int .u64 ca, .int .i64 cp, .int .i64 cy, .bool cg] 41) = W1 := ⟨_, rfl⟩
  have HX : Hid (BoxN W1 S #[.int .u64 cb, .int .u64 ct, .int .u64 ca, .int .i64 cp, .int .i64 cy, .bool cg]) := Lib.hid (by rw [← hW1, ← hS]; exact BoxN.new W _ _)
  have hB : Below W.heap.size W W1 := by rw [← hW1]; exact bAlloc (Below.refl _ _) _
  have HK : Hid (KP W.heap.size F W W1) := Lib.hid ⟨hB.os, hB.tape, hB.output, hB.size, fun b hb _ => hB.block b hb⟩
  have hM1 := h.below hB
  have HP := Lib.hid (place_any W1 M B D pb F m hM1 a 32 ha (by decide) (by decide))
  simp only [Int.cast_ofNat_Int] at HP
  have hz1 : W1.heap.size = S + 1 := by rw [← hW1, size_alloc, hS]
  rcases spot_place pb m a with ⟨he, hal, hin, hv⟩ | ⟨he, hv⟩
  · have hl : storeC m a ⟨cb, ct, ca, cp, cy, cg⟩ = (putC m a ⟨cb, ct, ca, cp, cy, cg⟩, 0) := by unfold storeC; rw [if_pos he, Int.toNat_natCast]
    rw [hl]
    rw [hv] at HP
    obtain ⟨P, hP⟩ : ∃ P, a / 256 = P := ⟨_, rfl⟩
    obtain ⟨i, hi⟩ : ∃ i, a % 256 = i := ⟨_, rfl⟩
    obtain ⟨c, hc⟩ : ∃ c, i + c = 256 := ⟨256 - i, by omega⟩
    obtain ⟨g, hg⟩ : ∃ g, i / 32 = g := ⟨_, rfl⟩
    have hi32 : i = 32 * g := by omega
    have haP : a = 256 * P + 32 * g := by omega
    have hg8 : g < 8 := by omega
    have hi8 : 256 - i = c := by omega
    rw [hP] at HP hin
    rw [hi] at HP
    have hbx := hM1.pg _ hin
    rw [pageC_eq] at hbx
    obtain ⟨bb, hbb⟩ : ∃ f, (fun j => m.by_ (256 * P + j)) = f := ⟨_, rfl⟩
    obtain ⟨tt, htt⟩ : ∃ f, (fun i => decide (8 * P + i ∈ m.mks)) = f := ⟨_, rfl⟩
    rw [hbb, htt] at hbx
    obtain ⟨q, hq⟩ : ∃ q, pb P = q := ⟨_, rfl⟩
    have HQF : Hid (F q) := Lib.hid (by rw [← hq]; exact h.fp _ hin)
    rw [hq] at HP hbx
    have hqS : q < S := by rw [← hq, ← hS]; exact (h.pg _ hin).lt
    have HFIN : Hid (∀ W', BoxN W' q (pgC (updB bb i (capB ⟨cb, ct, ca, cp, cy, cg⟩)) (updT tt g cg)).toArray → KP W1.heap.size (· = q) W1 W' → MemAt W' M F (putC m a ⟨cb, ct, ca, cp, cy, cg⟩)) := Lib.hid (fun W' hb hk => by
      obtain ⟨k1, k2, k3⟩ := okm_putC h.ok P g ⟨cb, ct, ca, cp, cy, cg⟩ hg8 hin
      have e1 := page_putC m P g ⟨cb, ct, ca, cp, cy, cg⟩ hg8
      rw [← haP] at k1 k2 k3 e1
      rw [hbb, htt, ← hi32] at e1
      refine (hM1.turn hin (by rw [hq]; exact hk) _ k1 k2 k3 (by rw [hq, e1]; exact hb) (fun p hp => ?_)).at_
      rw [haP]
      exact page_putC_other m P g _ hg8 hp)
    have hsl := fun w => run_slA w q i 32 (by omega) (by omega)
    rw [hi8] at hsl
    have hs8 := fun w => run_cut8 w q i 8 32 c (by omega) (by omega) (by omega)
    have hs16 := fun w => run_cut8 w q i 16 32 c (by omega) (by omega) (by omega)
    simp only [Nat.reduceSub, Int.cast_ofNat_Int] at hsl hs8 hs16
    have w1 : IntKind.i64.wrap ((i : Int) + 32) = (i : Int) + 32 := by rw [IntKind.wrap_i64]; omega
    have e0 : (i : Int).tdiv 32 = (g : Int) := by rw [Int.tdiv_eq_ediv_of_nonneg (by omega)]; omega
    have e0' : (i : Int) / 32 = (g : Int) := by omega
    have wg : IntKind.i64.wrap (g : Int) = (g : Int) := IntWalk.i64_in _ (by omega)
    have g8 : (g : Int) < 8 := by omega
    have g0 : (0 : Int) ≤ (g : Int) := by omega
    have hi225 : i + 32 ≤ 256 := by omega
    have HL0 := Lib.hid (fun W => little8 cb W b0 b1)
    have HL1 := Lib.hid (fun W => little8 ct W t0 t1)
    have HL2 := Lib.hid (fun W => little8 ca W a0 a1)
    have hqs : q < W1.heap.size := by omega
    obtain ⟨W2, hclr, hbx2, hk2⟩ := run_clearB W1 0 q i c bb tt hbx hi225
    have HQ := Lib.hid hbx2
    have HKQ := Lib.hid hk2
    have HXX := Lib.hid (HX.out.kp hk2 HX.out.lt (by omega))
    have cS0 : W2.cell? ⟨S, 0, none⟩ = some (.int .u64 cb) := HXX.out.cell 0
    clear hl hv he h hM1 hi hc hg hi8 hbx hbx2 hk2 hq hin hal hcc hB hP haP hi32 hbb htt b0 b1 t0 t1 a0 a1
    go_enter Try.func19, Try.ntmps19
    go_upto_region 1 with fail
    go_wp2_with fail
    refine HP.out.mono ?_; rintro e W0 ⟨rfl, rfl⟩
    go_upto_region 6 with fail
    go_wp2_with fail
    refine (HL0.out W2).mono ?_; rintro e W3 ⟨va, vc, rfl, hown, hb⟩
    obtain ⟨U0, hrun, hbx, hkk⟩ := copy_step (dl := 32) (dc := c) (o := i) 3 HQ.out HKQ.out hb hown (by omega) (by decide)
    have HQ := Lib.hid hbx
    have HKQ := Lib.hid hkk
    have cS1 : U0.cell? ⟨S, 1, none⟩ = some (.int .u64 ct) := (HX.out.kp hkk HX.out.lt (by omega)).cell 1
    clear hown hb hbx hkk cS0
    go_upto_region 7 with fail
    go_region_law (first
      | (go_simp; go_at_call 34; refine (HL1.out _).mono ?_; rintro e V1 ⟨va, vc, rfl, hown, hb⟩; obtain ⟨U1, hrun, hbx, hkk⟩ := copy_step (W4 := U0.drew) (dl := 24) (dc := c - 8) (o := i + 8) 3 HQ.out HKQ.out.drew hb hown (by omega) (by decide); have HQ1 := Lib.hid hbx; have HKQ1 := Lib.hid hkk; clear hown hb hbx hkk; dsimp only))
    all_goals
      have HQ := HQ1
      have HKQ := HKQ1
      have cS2 : U1.cell? ⟨S, 2, none⟩ = some (.int .u64 ca) := (HX.out.kp HKQ1.out HX.out.lt (by omega)).cell 2
      clear HQ1 HKQ1 cS1 hrun
      go_upto_region 8 with fail
      go_region_law (first
        | (go_simp; go_at_call 34; refine (HL2.out _).mono ?_; rintro e V2 ⟨va, vc, rfl, hown, hb⟩; obtain ⟨U2, hrun, hbx, hkk⟩ := copy_step (W4 := U1.drew) (dl := 16) (dc := c - 16) (o := i + 16) 3 HQ.out HKQ.out.drew hb hown (by omega) (by decide); have HQ2 := Lib.hid hbx; have HKQ2 := Lib.hid hkk; clear hown hb hbx hkk; dsimp only))
      all_goals
        have HQ := HQ2
        have HKQ := HKQ2
        have cS3 : U2.cell? ⟨S, 3, none⟩ = some (.int .i64 cp) := (HX.out.kp HKQ2.out HX.out.lt (by omega)).cell 3
        clear HQ2 HKQ2 cS2 hrun
        obtain ⟨pr, hpr⟩ : ∃ n : Nat, (cp % 256).toNat = n := ⟨_, rfl⟩
        have hprl : pr < 256 := by omega
        have wp : IntKind.u8.wrap cp = (pr : Int) := by rw [IntKind.wrap_u8]; omega
        obtain ⟨ty, hty⟩ : ∃ n : Nat, (cy % 256).toNat = n := ⟨_, rfl⟩
        have wy : IntKind.u8.wrap cy = (ty : Int) := by rw [IntKind.wrap_u8]; omega
        have HPR := Lib.hid hpr
        have HTY := Lib.hid hty
        clear hpr hty
        obtain ⟨b2, hb2⟩ : ∃ f, updB (updB (updB (updB bb i (List.replicate 32 0)) i (littleN cb.toNat 8)) (i + 8) (littleN ct.toNat 8)) (i + 16) (littleN ca.toNat 8) = f := ⟨_, rfl⟩
        rw [hb2] at HQ
        have HB2 := Lib.hid hb2
        clear hb2
        have c24 : U2.cell? ⟨q, i + 24, none⟩ = some (.int .u8 (b2 (i + 24) : Int)) := by rw [HQ.out.cell, List.getElem?_toArray, pgC_by _ _ _ (by omega)]
        have z24 : U2.frozen? ⟨q, i + 24, none⟩ = false := HQ.out.frozen _
        go_upto_region 10 with fail
        have HQ := Lib.hid (show BoxN (U2.setCell ⟨q, i + 24, none⟩ (.int .u8 (pr : Int))) q (pgC (updB b2 (i + 24) [pr]) tt).toArray by have h1 := HQ.out.set (i + 24) (.int .u8 (pr : Int)); rwa [pgC_setBy _ _ _ _ (by omega)] at h1)
        have HKQ := Lib.hid (HKQ.out.set ⟨q, i + 24, none⟩ (Or.inr rfl) (.int .u8 (pr : Int)))
        obtain ⟨U3, hU3⟩ : ∃ W', U2.setCell ⟨q, i + 24, none⟩ (.int .u8 (pr : Int)) = W' := ⟨_, rfl⟩
        rw [hU3] at HQ HKQ ⊢
        clear hU3 c24 z24 cS3
        have c25 : U3.cell? ⟨q, i + 25, none⟩ = some (.int .u8 (updB b2 (i + 24) [pr] (i + 25) : Int)) := by rw [HQ.out.cell, List.getElem?_toArray, pgC_by _ _ _ (by omega)]
        have z25 : U3.frozen? ⟨q, i + 25, none⟩ = false := HQ.out.frozen _
        go_upto_region 11 with fail
        have HQ := Lib.hid (show BoxN (U3.setCell ⟨q, i + 25, none⟩ (.int .u8 255)) q (pgC (updB (updB b2 (i + 24) [pr]) (i + 25) [255]) tt).toArray by have h1 := HQ.out.set (i + 25) (.int .u8 ((255 : Nat) : Int)); rw [pgC_setBy _ _ _ _ (by omega)] at h1; exact h1)
        have HKQ := Lib.hid (HKQ.out.set ⟨q, i + 25, none⟩ (Or.inr rfl) (.int .u8 255))
        obtain ⟨U4, hU4⟩ : ∃ W', U3.setCell ⟨q, i + 25, none⟩ (.int .u8 255) = W' := ⟨_, rfl⟩
        rw [hU4] at HQ HKQ ⊢
        clear hU4 c25 z25
        have cS4 : U4.cell? ⟨S, 4, none⟩ = some (.int .i64 cy) := (HX.out.kp HKQ.out HX.out.lt (by omega)).cell 4
        by_cases hcy : 0 ≤ cy
        · have c25 : U4.cell? ⟨q, i + 25, none⟩ = some (.int .u8 (updB (updB b2 (i + 24) [pr]) (i + 25) [255] (i + 25) : Int)) := by rw [HQ.out.cell, List.getElem?_toArray, pgC_by _ _ _ (by omega)]
          have z25 : U4.frozen? ⟨q, i + 25, none⟩ = false := HQ.out.frozen _
          have HCB : Hid (updB (updB (updB b2 (i + 24) [pr]) (i + 25) [255]) (i + 25) [ty] = updB bb i (capB ⟨cb, ct, ca, cp, cy, cg⟩)) := Lib.hid (by
            rw [cap_bytes2, ← HB2.out, cap_bytes (u := 0)]
            unfold capB typeB
            rw [if_pos hcy, HPR.out, HTY.out])
          go_upto_region 13 with fail
          have HQ := Lib.hid (show BoxN (U4.setCell ⟨q, i + 25, none⟩ (.int .u8 (ty : Int))) q (pgC (updB (updB (updB b2 (i + 24) [pr]) (i + 25) [255]) (i + 25) [ty]) tt).toArray by have h1 := HQ.out.set (i + 25) (.int .u8 (ty : Int)); rwa [pgC_setBy _ _ _ _ (by omega)] at h1)
          have HKQ := Lib.hid (HKQ.out.set ⟨q, i + 25, none⟩ (Or.inr rfl) (.int .u8 (ty : Int)))
          obtain ⟨U5, hU5⟩ : ∃ W', U4.setCell ⟨q, i + 25, none⟩ (.int .u8 (ty : Int)) = W' := ⟨_, rfl⟩
          rw [hU5] at HQ HKQ ⊢
          clear hU5 c25 z25 cS4
          have HKQ := Lib.hid (show KP W1.heap.size (· = q) W1 U5 from HKQ.out)
          have cS5 : U5.cell? ⟨S, 5, none⟩ = some (.bool cg) := (HX.out.kp HKQ.out HX.out.lt (by omega)).cell 5
          have ctg : U5.cell? ⟨q, 256 + g, none⟩ = some (.bool (tt g)) := by rw [HQ.out.cell, List.getElem?_toArray, pgC_tag _ _ _ hg8]
          have ztg : U5.frozen? ⟨q, 256 + g, none⟩ = false := HQ.out.frozen _
          have HQF2 : Hid (BoxN (U5.drew.setCell ⟨q, 256 + g, none⟩ (.bool cg)) q (pgC (updB bb i (capB ⟨cb, ct, ca, cp, cy, cg⟩)) (updT tt g cg)).toArray) := Lib.hid (by
            have h1 := BoxN.set (W := U5.drew) HQ.out (256 + g) (.bool cg)
            rw [pgC_setTag _ _ _ _ hg8] at h1
            rw [HCB.out] at h1
            exact h1)
          have HKF2 := Lib.hid (HKQ.out.drew.set ⟨q, 256 + g, none⟩ (Or.inr rfl) (.bool cg))
          go_region_law (fail)
          all_goals
            go_wp2_with fail
            go_ret
            have hfi := HK.out.trans (HKF2.out.mono HK.out.size (fun b _ e => by rw [show b = q from e]; exact HQF.out))
            first
              | exact ⟨rfl, HFIN.out _ HQF2.out HKF2.out, hfi⟩
              | (rw [hS] at hfi; exact ⟨rfl, HFIN.out _ HQF2.out HKF2.out, hfi⟩)
        · have HCB : Hid (updB (updB b2 (i + 24) [pr]) (i + 25) [255] = updB bb i (capB ⟨cb, ct, ca, cp, cy, cg⟩)) := Lib.hid (by
            rw [← HB2.out, cap_bytes (u := 0)]
            unfold capB typeB
            rw [if_neg hcy, HPR.out])
          go_upto_region 13 with fail
          clear cS4
          have HKQ := Lib.hid (show KP W1.heap.size (· = q) W1 U4 from HKQ.out)
          have cS5 : U4.cell? ⟨S, 5, none⟩ = some (.bool cg) := (HX.out.kp HKQ.out HX.out.lt (by omega)).cell 5
          have ctg : U4.cell? ⟨q, 256 + g, none⟩ = some (.bool (tt g)) := by rw [HQ.out.cell, List.getElem?_toArray, pgC_tag _ _ _ hg8]
          have ztg : U4.frozen? ⟨q, 256 + g, none⟩ = false := HQ.out.frozen _
          have HQF2 : Hid (BoxN (U4.drew.setCell ⟨q, 256 + g, none⟩ (.bool cg)) q (pgC (updB bb i (capB ⟨cb, ct, ca, cp, cy, cg⟩)) (updT tt g cg)).toArray) := Lib.hid (by
            have h1 := BoxN.set (W := U4.drew) HQ.out (256 + g) (.bool cg)
            rw [pgC_setTag _ _ _ _ hg8] at h1
            rw [HCB.out] at h1
            exact h1)
          have HKF2 := Lib.hid (HKQ.out.drew.set ⟨q, 256 + g, none⟩ (Or.inr rfl) (.bool cg))
          go_region_law (fail)
          all_goals
            go_wp2_with fail
            go_ret
            have hfi := HK.out.trans (HKF2.out.mono HK.out.size (fun b _ e => by rw [show b = q from e]; exact HQF.out))
            first
              | exact ⟨rfl, HFIN.out _ HQF2.out HKF2.out, hfi⟩
              | (rw [hS] at hfi; exact ⟨rfl, HFIN.out _ HQF2.out HKF2.out, hfi⟩)
  · have hl : storeC m a ⟨cb, ct, ca, cp, cy, cg⟩ = (m, spotE m a) := by unfold storeC; rw [if_neg he]
    rw [hl]
    rw [hv] at HP
    obtain ⟨e1, he1⟩ : ∃ e, spotE m a = e := ⟨_, rfl⟩
    rw [he1] at HP he ⊢
    have HM := Lib.hid hM1.at_
    clear hl hv h hM1 he1 hcc hB
    go_enter Try.func19, Try.ntmps19
    go_upto_region 1 with fail
    go_wp2_with fail
    refine HP.out.mono ?_; rintro e W0 ⟨rfl, rfl⟩
    go_wp2_with fail
    go_ret
    exact ⟨rfl, HM.out, HK.out⟩
end Go.Proofs.Ytgfkjlknkbdjiaa
