/- So5 Ta5 -/
import Derived.Test.YtegoddghfjfibaaGreatDoorZ04
import Derived.Sort.MapsRangeIn
import Derived.RangeFuncNested
import Derived.RangeFuncBound
import Derived.RangeFuncCalls
import Derived.RangeFuncLeaves
import Derived.RangeFuncGives
import Derived.Shelf.Abstract
import Derived.Shelf.RegionOpen
import Derived.WalkKit
import Derived.OwnWalkIn
import Derived.TacticsInMore
import Derived.LoopNIn
import Derived.LoopIn
import Derived.Test.YtegoddghfjfibaaGreatDoorZ06
import Derived.RangeFuncWrites
import Derived.RangeFuncBox
import Derived.Test.YtegoddghfjfibaaGreatDoorZ05
import Derived.Deep.Cut
import Derived.Deep.QuietTactic
namespace Go.Proofs.YtegoddghfjfibaaGreatDoor
set_option linter.unusedVariables false
set_option linter.unusedSimpArgs false
open Go.Joins Go.ChangeShapes Go.WideShapes Go.ChangeAt Go.RowKit Go.Deep Go.Shelf
attribute [local go_sem] Oper.semAt_some

/-- the keys that have come -/
structure Coll (D : DataW Unit) (left : Lit → Bool) (ss : List Nat) : Prop where
  nd : ss.Nodup
  lt : ∀ x ∈ ss, x < 18446744073709551616
  mem : ∀ x : Nat, x < 18446744073709551616 → (x ∈ ss ↔ (Maps.has D (.int .u64 (x : Int)) = true ∧ left (.int .u64 (x : Int)) = false))
theorem Coll.step {D : DataW Unit} {left : Lit → Bool} {ss : List Nat} (h : Coll D left ss) {x : Nat} {y : DataW Unit} (hx : x < 18446744073709551616) (hlk : left (.int .u64 (x : Int)) = true) (hat : ∀ zd, D.atKey (.int .u64 (x : Int)) zd = y) : Coll D (fun z => left z && !z.sameKey (.int .u64 (x : Int))) (ss ++ [x]) := by
  have hhas : Maps.has D (.int .u64 (x : Int)) = true := Maps.has_true_of_atKey hat
  have hnew : x ∉ ss := fun hm => by have := ((h.mem x hx).1 hm).2; rw [hlk] at this; cases this
  refine ⟨List.nodup_append.2 ⟨h.nd, by simp, fun a ha b hb => by simp at hb; subst hb; exact fun e => hnew (e ▸ ha)⟩, fun z hz => ?_, fun z hz => ?_⟩
  · rcases List.mem_append.1 hz with q | q
    · exact h.lt z q
    · rw [List.mem_singleton] at q; subst q; exact hx
  · rw [List.mem_append, List.mem_singleton, h.mem z hz]
    by_cases e : z = x
    · subst e; simp [hhas, Lit.sameKey]
    · have : ¬ ((z : Int) = (x : Int)) := by omega
      simp [e, Lit.sameKey, this]
end Go.Proofs.YtegoddghfjfibaaGreatDoor

namespace Go.Proofs.YtegoddghfjfibaaGreatDoor
set_option linter.unusedVariables false
set_option linter.unusedSimpArgs false
open Go.Joins Go.ChangeShapes Go.WideShapes Go.ChangeAt Go.RowKit Go.Deep

end Go.Proofs.YtegoddghfjfibaaGreatDoor

namespace Go.Proofs.YtegoddghfjfibaaGreatDoor
set_option linter.unusedVariables false
set_option linter.unusedSimpArgs false
open Go.Joins Go.ChangeShapes Go.WideShapes Go.ChangeAt Go.RowKit Go.Deep Go.Shelf
attribute [local go_sem] Oper.semAt_some

end Go.Proofs.YtegoddghfjfibaaGreatDoor

namespace Go.Proofs.YtegoddghfjfibaaGreatDoor
set_option linter.unusedVariables false
set_option linter.unusedSimpArgs false
open Go.Joins Go.ChangeShapes Go.WideShapes Go.ChangeAt Go.RowKit Go.Deep

end Go.Proofs.YtegoddghfjfibaaGreatDoor


namespace Go.Proofs.YtegoddghfjfibaaGreatDoor
set_option linter.unusedVariables false
set_option linter.unusedSimpArgs false
open Go.Joins Go.ChangeShapes Go.WideShapes Go.ChangeAt Go.RowKit Go.Deep

end Go.Proofs.YtegoddghfjfibaaGreatDoor

namespace Go.Proofs.YtegoddghfjfibaaGreatDoor
set_option linter.unusedVariables false
set_option linter.unusedSimpArgs false
open Go.Joins Go.ChangeShapes Go.WideShapes Go.ChangeAt Go.RowKit Go.Deep

end Go.Proofs.YtegoddghfjfibaaGreatDoor

namespace Go.Proofs.YtegoddghfjfibaaGreatDoor
set_option linter.unusedVariables false
set_option linter.unusedSimpArgs false
open Go.Joins Go.ChangeShapes Go.WideShapes Go.ChangeAt Go.RowKit Go.Deep

end Go.Proofs.YtegoddghfjfibaaGreatDoor

namespace Go.Proofs.YtegoddghfjfibaaGreatDoor
set_option linter.unusedVariables false
set_option linter.unusedSimpArgs false
open Go.Joins Go.ChangeShapes Go.WideShapes Go.ChangeAt Go.RowKit Go.Deep

end Go.Proofs.YtegoddghfjfibaaGreatDoor

namespace Go.Proofs.YtegoddghfjfibaaGreatDoor
set_option linter.unusedVariables false
set_option linter.unusedSimpArgs false
open Go.Joins Go.ChangeShapes Go.WideShapes Go.ChangeAt Go.RowKit Go.Deep

theorem rlittle8 (x : Int) (W : World) (h0 : 0 ≤ x) (h1 : x < 18446744073709551616) :
    Calls Tryz.prog 82 #[.int .u64 x, .int .i64 8] W fun e w' => ∃ va vc, e = .returned (.slice va 8 vc) ∧ w'.ownsRow W.heap.size 5 1 (.slice va 8 vc) 8 (u8s (littleN x.toNat 8)) ∧ Below W.heap.size W w' := by
  refine (rlittle_any x 8 W h0 h1).mono ?_
  rintro e w' ⟨v, rfl, hown, hb⟩
  have e1 : littleZ x 8 = littleN x.toNat 8 := by unfold littleZ; rw [if_neg (by decide)]; rfl
  rw [e1, littleN_length] at hown
  obtain ⟨va, vc, rfl, -⟩ := own_slice hown
  exact ⟨va, vc, rfl, hown, hb⟩
/-- eight bytes of a new row are written, one step of several -/
theorem rwr_step {W1 Wk U : World} {R : Nat} {F : Nat → Prop} {mk : Mm} {va : Option Addr} {vc : Nat} {l : List Nat} (HM : RmAt Wk R (FN F W1 Wk) mk) (HK : KP W1.heap.size F W1 Wk) (hF : ∀ b, F b → b < W1.heap.size) (hb : Below Wk.heap.size Wk U)
    (hown : U.ownsRow Wk.heap.size 5 1 (.slice va 8 vc) 8 (u8s l)) (x : Nat) (hin : ∀ i, i < 8 → (x + i) / 256 ∈ mk.pgs) (hbl : ∀ b ∈ l, b < 256) :
    Calls Tryz.prog 81 #[.pointer (some ⟨R, 0, none⟩), .int .u64 (x : Int), .slice va 8 vc] U fun e W' => e = .returned (.tuple #[]) ∧ RmAt W' R (FN F W1 W') (wrL mk x l) ∧ KP W1.heap.size F W1 W' := by
  have hlt := HM.lt
  refine (rwrite_any U R (FN F W1 Wk) mk (HM.below hb) x 8 vc va l (by have := hown.1; rw [u8s_length] at this; omega) hin (by decide) hbl (Rd.of_own hown) (fun g off e hg => ?_)).mono ?_
  · rcases hown.2 with ⟨e0, e1⟩ | ⟨g', cap, cur, e1, hg', -⟩
    · omega
    · rw [Value.slice.injEq] at e1
      rw [e1.1] at e
      cases e
      have := hlt _ hg
      omega
  · rintro e W' ⟨rfl, h1, h2⟩
    have hsU := hb.size
    have hs1 := HK.size
    have hs2 := h2.size
    refine ⟨rfl, h1.mono (fun q hq => ?_) (fun q hq => ?_), (HK.below hb hs1).trans (h2.mono (by omega) (fun q hq e => ?_))⟩
    · rcases hq with (hq | hq) | hq
      · exact Or.inl hq
      · exact Or.inr ⟨hq.1, by omega⟩
      · exact Or.inr ⟨by omega, hq.2⟩
    · rcases hq with hq | hq
      · have := hF q hq; omega
      · exact hq.2
    · rcases e with e | e
      · exact e
      · omega
theorem ins_map (g : Nat) (l : List Nat) : ins (32 * g) (l.map (32 * ·)) = (ins g l).map (32 * ·) := by
  induction l with
  | nil => rfl
  | cons x r ih =>
    rw [List.map_cons]
    unfold ins
    by_cases h : g < x
    · rw [if_pos h, if_pos (by omega)]; rfl
    · rw [if_neg h, if_neg (by omega), ih]; rfl
/-- a tag is put -/
theorem rtag_step {W U : World} {R : Nat} {F : Nat → Prop} {m : Mm} {na ca ka : Option Addr} {nc cc kc : Nat} {cs : List (Nat × Nat)} (h : RmO W R F m na ca ka nc cc kc cs) {g : Nat} (hg : g ∉ m.mks) (hp : g / 8 ∈ m.pgs) (hb : Below W.heap.size W U) {ra : Option Addr} {rc : Nat}
    (ho : U.ownsRow W.heap.size 22 1 (.slice ra (m.mks.length + 1) rc) (m.mks.length + 1) (u64s ((ins g m.mks).map (32 * ·)))) :
    RmAt (U.setCell ⟨R, 2, none⟩ (.slice ra (m.mks.length + 1) rc)) R (FN F W (U.setCell ⟨R, 2, none⟩ (.slice ra (m.mks.length + 1) rc))) (tagP m g) ∧ KP W.heap.size F W (U.setCell ⟨R, 2, none⟩ (.slice ra (m.mks.length + 1) rc)) := by
  have hR : R < W.heap.size := h.lt _ h.fr
  have hk : KP W.heap.size (· = R) W (U.setCell ⟨R, 2, none⟩ (.slice ra (m.mks.length + 1) rc)) := (KP.of_below (· = R) hb).set ⟨R, 2, none⟩ (Or.inr rfl) _
  have hbx : BoxN (U.setCell ⟨R, 2, none⟩ (.slice ra (m.mks.length + 1) rc)) R #[.slice na m.pgs.length nc, .slice ca cs.length cc, .slice ra (m.mks.length + 1) rc, .int .i64 (m.bud : Int)] := (boxN_below h.box hb).set 2 (.slice ra (m.mks.length + 1) rc)
  have ho2 := own_kp2 ho (KP.set1 U R 2 (.slice ra (m.mks.length + 1) rc)) (by intro q hq e; have h1 : q = R := e; omega)
  have hl : (tagP m g).mks.length = m.mks.length + 1 := length_ins g m.mks
  refine ⟨⟨na, ca, ra, nc, cc, rc, cs, okm_tagP h.ok hg hp, by rw [hl]; exact hbx, ?_, ?_, ?_, ⟨h.co.look, h.co.in_, h.co.nd⟩, Or.inl h.fr, fun q hq => ?_⟩, hk.mono (Nat.le_refl _) (fun q _ e => by rw [show q = R from e]; exact h.fr)⟩
  · exact (h.rn.blocks (fun q hf hne => hk.block q (h.lt q hf) hne) hk.size).mono (fun q hf => Or.inl hf)
  · exact (h.rc.blocks (fun q hf hne => hk.block q (h.lt q hf) hne) hk.size).mono (fun q hf => Or.inl hf)
  · have := rdF_own (F := F) (R := R) ho2 (Nat.le_refl _) hR
    rw [Nat.mul_one] at this
    rw [hl]
    exact this
  · rcases hq with hq | hq
    · exact Nat.lt_of_lt_of_le (h.lt q hq) hk.size
    · exact hq.2
theorem spotE_fits {m : Mm} {a : Nat} (he : spotE m a = 0) : a % 32 = 0 ∧ a / 256 ∈ m.pgs := by
  rcases spot_place (fun _ => 0) m a with ⟨-, h1, h2, -⟩ | ⟨h, -⟩
  · exact ⟨h1, h2⟩
  · exact absurd he h
theorem putC_steps (m : Mm) (a : Nat) (c : Cp) : wrL m a (capB c) = wrL (wrL (wrL (wrL m a (littleN c.b.toNat 8)) (a + 8) (littleN c.t.toNat 8)) (a + 16) (littleN c.a.toNat 8)) (a + 24) [(c.p % 256).toNat, typeB c.y, 0, 0, 0, 0, 0, 0] := by
  unfold capB
  rw [wrL_append, wrL_append, wrL_append, littleN_length, littleN_length, littleN_length]
set_option maxRecDepth 100000 in
set_option maxHeartbeats 8000000 in
theorem rstoreC_any (W : World) (R : Nat) (F : Nat → Prop) (m : Mm) (h : RmAt W R F m) (a : Nat) (c : Cp) (ha : a < 18446744073709551616) (hc : FitC c) :
    Calls Tryz.prog 39 #[.pointer (some ⟨R, 0, none⟩), .int .u64 (a : Int), .agg (capC c).toArray] W fun e W' => e = .returned (.int .i64 (storeC m a c).2) ∧ RmAt W' R (FN F W W') (storeC m a c).1 ∧ KP W.heap.size F W W' := by
  obtain ⟨cb, ct, ca, cp, cy, cg⟩ := c
  obtain ⟨b0, b1, t0, t1, a0, a1⟩ := hc
  simp only at b0 b1 t0 t1 a0 a1
  have hcc : (capC ⟨cb, ct, ca, cp, cy, cg⟩).toArray = #[.int .u64 cb, .int .u64 ct, .int .u64 ca, .int .i64 cp, .int .i64 cy, .bool cg] := rfl
  rw [hcc]
  obtain ⟨S, hS⟩ : ∃ S, W.heap.size = S := ⟨_, rfl⟩
  obtain ⟨W1, hW1⟩ : ∃ W1, W.alloc (.cells #[.int .u64 cb, .int .u64 ct, .int .u64 ca, .int .i64 cp, .int .i64 cy, .bool cg] 24) = W1 := ⟨_, rfl⟩
  have HX : Hid (BoxN W1 S #[.int .u64 cb, .int .u64 ct, .int .u64 ca, .int .i64 cp, .int .i64 cy, .bool cg]) := Lib.hid (by rw [← hW1, ← hS]; exact BoxN.new W _ _)
  have hB : Below W.heap.size W W1 := by rw [← hW1]; exact bAlloc (Below.refl _ _) _
  have hz1 : W1.heap.size = S + 1 := by rw [← hW1, size_alloc, hS]
  have h1 := h.below hB
  have hFl := h.lt
  have HSP := Lib.hid (rspot_any W1 R F m h1 a ha)
  have HBW := Lib.hid hB
  have HFL : Hid (∀ b, F b → b < S) := Lib.hid (by rw [← hS]; exact hFl)
  have HW1 := Lib.hid hW1
  have HSE := Lib.hid hS
  have HM1 : Hid (RmAt W1 R (FN F W1 W1) m) := Lib.hid (h1.mono (fun q hq => Or.inl hq) (fun q hq => by rcases hq with hq | hq; exact h1.lt q hq; exact hq.2))
  -- from W1's words to W's
  have HUP : Hid (∀ (U : World) (m' : Mm), RmAt U R (FN F W1 U) m' → KP W1.heap.size F W1 U → RmAt U R (FN F W U) m' ∧ KP W.heap.size F W U) := Lib.hid (fun U m' k1 k2 => by
    have s2 := k2.size
    have s1 := hB.size
    refine ⟨k1.mono (fun q hq => ?_) (fun q hq => ?_), (KP.of_below F hB).trans (k2.mono s1 (fun _ _ e => e))⟩
    · rcases hq with hq | hq
      · exact Or.inl hq
      · exact Or.inr ⟨by omega, hq.2⟩
    · rcases hq with hq | hq
      · have := hFl q hq; omega
      · exact hq.2)
  by_cases he : spotE m a = 0
  · obtain ⟨hal, hin⟩ := spotE_fits he
    have hl : storeC m a ⟨cb, ct, ca, cp, cy, cg⟩ = (putC m a ⟨cb, ct, ca, cp, cy, cg⟩, 0) := by unfold storeC; rw [if_pos he, Int.toNat_natCast]
    rw [hl]
    rw [he] at HSP
    have hp24 := h.ok.pl _ hin
    have HWP : Hid (∀ (m : Mm) (a : Nat) (l : List Nat), (wrL m a l).pgs = m.pgs) := Lib.hid (fun m a l => (wrL_pgs m a l).1)
    have HIN : Hid (∀ k i, i < 8 → k ≤ 24 → (a + k + i) / 256 ∈ m.pgs) := Lib.hid (fun k i hi hk => by rw [show (a + k + i) / 256 = a / 256 by omega]; exact hin)
    have HA32 : Hid (((32 * (a / 32) : Nat) : Int) = (a : Int)) := Lib.hid (by omega)
    have HPP : Hid (a / 32 / 8 ∈ (wrL m a (capB ⟨cb, ct, ca, cp, cy, true⟩)).pgs) := Lib.hid (by rw [(wrL_pgs _ _ _).1, show a / 32 / 8 = a / 256 by omega]; exact hin)
    have HNG : Hid (a / 32 ∉ (wrL m a (capB ⟨cb, ct, ca, cp, cy, true⟩)).mks) := Lib.hid (fun e => by
      have haP : a = 256 * (a / 256) + 32 * (a % 256 / 32) := by omega
      rw [haP] at e
      have h9 := ((mks_wrL m (a / 256) (a % 256 / 32) _ _).1 e).2
      rw [show (256 * (a / 256) + 32 * (a % 256 / 32)) / 32 = 8 * (a / 256) + a % 256 / 32 by omega, gr_one _ _ _ (by omega) (by omega), decide_eq_true rfl] at h9
      cases h9)
    have HF1 : Hid (∀ b, F b → b < W1.heap.size) := Lib.hid (fun b hb => by have := HFL.out b hb; omega)
    have HK1 : Hid (KP W1.heap.size F W1 W1) := Lib.hid (KP.refl _ _ _)
    have cS4 : W1.cell? ⟨S, 4, none⟩ = some (.int .i64 cy) := HX.out.cell 4
    have cS0 : W1.cell? ⟨S, 0, none⟩ = some (.int .u64 cb) := HX.out.cell 0
    obtain ⟨pr, hpr⟩ : ∃ n : Nat, (cp % 256).toNat = n := ⟨_, rfl⟩
    have wp : IntKind.u8.wrap cp = (pr : Int) := by rw [IntKind.wrap_u8]; omega
    have w8 : IntKind.u64.wrap ((a : Int) + 8) = (a : Int) + 8 := by rw [IntKind.wrap_u64]; omega
    have w16 : IntKind.u64.wrap ((a : Int) + 16) = (a : Int) + 16 := by rw [IntKind.wrap_u64]; omega
    have w24 : IntKind.u64.wrap ((a : Int) + 24) = (a : Int) + 24 := by rw [IntKind.wrap_u64]; omega
    have hrest : pr < 256 := by omega
    clear hl he h h1 hB hS hW1 hz1 hcc hal hin hp24 hFl
    by_cases hcy : 0 ≤ cy
    · obtain ⟨tb, htb⟩ : ∃ n : Nat, typeB cy = n := ⟨_, rfl⟩
      have htb2 : (cy % 256).toNat = tb := by rw [← htb]; unfold typeB; rw [if_pos hcy]
      have wy : IntKind.u8.wrap cy = (tb : Int) := by rw [IntKind.wrap_u8]; omega
      have htl : tb < 256 := by omega
      clear htb2
      have HTB : Hid (typeB cy = tb) := Lib.hid htb
      have HST : Hid (wrL (wrL (wrL (wrL m a (littleN cb.toNat 8)) (a + 8) (littleN ct.toNat 8)) (a + 16) (littleN ca.toNat 8)) (a + 24) [pr, tb, 0, 0, 0, 0, 0, 0] = wrL m a (capB ⟨cb, ct, ca, cp, cy, cg⟩)) := Lib.hid (by rw [putC_steps, hpr, htb])
      have HBY : Hid (∀ b ∈ [pr, tb, 0, 0, 0, 0, 0, 0], b < 256) := Lib.hid (fun b hb => by
        simp only [List.mem_cons, List.not_mem_nil, or_false] at hb
        rcases hb with h | h | h | h | h | h | h | h <;> omega)
      clear htb hpr hrest
      go_enter Tryz.func39, Tryz.ntmps39
      go_upto_region 1 with fail
      rw [HW1.out, HSE.out]
      go_wp2_with fail
      refine HSP.out.mono ?_; rintro e W0 ⟨rfl, rfl⟩
      go_wp2_with fail
      refine (rlittle8 cb W1 b0 b1).mono ?_; rintro e U0 ⟨va, vc, rfl, hown, hb⟩
      have HC := Lib.hid (rwr_step HM1.out HK1.out HF1.out hb hown a (fun i hi => by first | exact HIN.out 0 i hi (by decide) | (simp only [HWP.out]; exact HIN.out 0 i hi (by decide))) (littleN_lt _ _))
      clear hown hb
      go_wp2_with fail
      refine HC.out.mono ?_; rintro e W2 ⟨rfl, hm, hk⟩
      have HM1 := Lib.hid hm
      have HK1 := Lib.hid hk
      have cS : W2.cell? ⟨S, 1, none⟩ = some (.int .u64 ct) := (HX.out.kp hk HX.out.lt (fun e => Nat.lt_irrefl _ (HFL.out S e))).cell 1
      clear hm hk HC
      go_wp2_with fail
      refine (rlittle8 ct W2 t0 t1).mono ?_; rintro e U0 ⟨va, vc, rfl, hown, hb⟩
      have HC := Lib.hid (rwr_step HM1.out HK1.out HF1.out hb hown (a + 8) (fun i hi => by first | exact HIN.out 8 i hi (by decide) | (simp only [HWP.out]; exact HIN.out 8 i hi (by decide))) (littleN_lt _ _))
      rw [show ((a + 8 : Nat) : Int) = (a : Int) + 8 by omega] at HC
      clear hown hb
      go_wp2_with fail
      refine HC.out.mono ?_; rintro e W3 ⟨rfl, hm, hk⟩
      have HM1 := Lib.hid hm
      have HK1 := Lib.hid hk
      have cS : W3.cell? ⟨S, 2, none⟩ = some (.int .u64 ca) := (HX.out.kp hk HX.out.lt (fun e => Nat.lt_irrefl _ (HFL.out S e))).cell 2
      clear hm hk HC
      go_wp2_with fail
      refine (rlittle8 ca W3 a0 a1).mono ?_; rintro e U0 ⟨va, vc, rfl, hown, hb⟩
      have HC := Lib.hid (rwr_step HM1.out HK1.out HF1.out hb hown (a + 16) (fun i hi => by first | exact HIN.out 16 i hi (by decide) | (simp only [HWP.out]; exact HIN.out 16 i hi (by decide))) (littleN_lt _ _))
      rw [show ((a + 16 : Nat) : Int) = (a : Int) + 16 by omega] at HC
      clear hown hb
      go_wp2_with fail
      refine HC.out.mono ?_; rintro e W4 ⟨rfl, hm, hk⟩
      have HM1 := Lib.hid hm
      have HK1 := Lib.hid hk
      have cS : W4.cell? ⟨S, 3, none⟩ = some (.int .i64 cp) := (HX.out.kp hk HX.out.lt (fun e => Nat.lt_irrefl _ (HFL.out S e))).cell 3
      clear hm hk HC
      obtain ⟨V0, hV0⟩ : ∃ V, W4.alloc (.cells #[.int .u8 (pr : Int), .int .u8 (tb : Int), .int .u8 0, .int .u8 0, .int .u8 0, .int .u8 0, .int .u8 0, .int .u8 0] 5) = V := ⟨_, rfl⟩
      have hbv : Below W4.heap.size W4 V0 := by rw [← hV0]; exact bAlloc (Below.refl _ _) _
      have how : V0.ownsRow W4.heap.size 5 1 (.slice (some ⟨W4.heap.size, 0, none⟩) 8 8) 8 (u8s [pr, tb, 0, 0, 0, 0, 0, 0]) := by
        rw [← hV0]
        exact World.ownsRow_lit (base := W4.heap.size) (e := 5) (size := 1) W4 #[.int .u8 (pr : Int), .int .u8 (tb : Int), .int .u8 0, .int .u8 0, .int .u8 0, .int .u8 0, .int .u8 0, .int .u8 0] 8 (Nat.le_refl _) (by show 8 ≤ maxLen; decide) rfl
      have HC := Lib.hid (rwr_step HM1.out HK1.out HF1.out hbv how (a + 24) (fun i hi => by simp only [HWP.out]; exact HIN.out 24 i hi (by decide)) HBY.out)
      rw [show ((a + 24 : Nat) : Int) = (a : Int) + 24 by omega, HST.out] at HC
      clear how hbv
      go_wp2_with fail
      refine HC.out.mono ?_; rintro e W5 ⟨rfl, hm, hk⟩
      have HM1 := Lib.hid hm
      have HK1 := Lib.hid hk
      have cS5 : W5.cell? ⟨S, 5, none⟩ = some (.bool cg) := (HX.out.kp hk HX.out.lt (fun e => Nat.lt_irrefl _ (HFL.out S e))).cell 5
      clear hm hk HC hV0 cS cS4
      cases cg with
      | false =>
        go_wp2_with fail
        go_ret
        obtain ⟨k1, k2⟩ := HUP.out _ _ HM1.out HK1.out
        exact ⟨rfl, k1, k2⟩
      | true =>
        obtain ⟨na, cA, ka, nc, cc, kc, cs, hO⟩ := HM1.out
        have c2 : W5.cell? ⟨R, 2, none⟩ = some (.slice ka (wrL m a (capB ⟨cb, ct, ca, cp, cy, true⟩)).mks.length kc) := hO.box.cell 2
        have HBX := Lib.hid hO.box
        have hml := mks_len hO.ok
        have hrk := hO.rk.1
        have HTG := Lib.hid (fun (U : World) (hb : Below W5.heap.size W5 U) (ra : Option Addr) (rc : Nat) ho => rtag_step hO (g := a / 32) HNG.out HPP.out hb (ra := ra) (rc := rc) ho)
        have HMC : Hid (tagP (wrL m a (capB ⟨cb, ct, ca, cp, cy, true⟩)) (a / 32) = putC m a ⟨cb, ct, ca, cp, cy, true⟩) := Lib.hid rfl
        obtain ⟨mk, hmk⟩ : ∃ z, wrL m a (capB ⟨cb, ct, ca, cp, cy, true⟩) = z := ⟨_, rfl⟩
        rw [hmk] at c2 HBX hml hrk HTG HMC
        have hc5 := rput_any ka mk.mks.length kc (mk.mks.map (32 * ·)) (32 * (a / 32)) W5 hrk (by omega)
        rw [ins_map, List.length_map, length_ins, HA32.out] at hc5
        have HC := Lib.hid hc5
        obtain ⟨z, hz⟩ : ∃ z, mk.mks.length = z := ⟨_, rfl⟩
        rw [hz] at c2 HBX HTG HC
        clear hO hml hrk hmk hz hc5
        go_wp2_with fail
        refine HC.out.mono ?_; rintro e U ⟨⟨ra, rc, rfl, hown⟩, hb⟩
        have hst := HTG.out U hb ra rc hown
        have hbx := boxN_below HBX.out hb
        have t2 : U.cell? ⟨R, 2, none⟩ = some (.slice ka z kc) := hbx.cell 2
        have tz : U.frozen? ⟨R, 2, none⟩ = false := hbx.frozen 2
        have HST2 := Lib.hid hst
        clear hown hb hst hbx c2
        go_wp2_with fail
        obtain ⟨W6, hW6⟩ : ∃ W6, U.setCell ⟨R, 2, none⟩ (.slice ra (z + 1) rc) = W6 := ⟨_, rfl⟩
        rw [hW6] at HST2 ⊢
        clear hW6 t2 tz
        go_ret
        have hs3 := HST2.out.2.size
        have hs5 := HK1.out.size
        have hm6 : RmAt W6 R (FN F W1 W6) (putC m a ⟨cb, ct, ca, cp, cy, true⟩) := by
          have h9 := HST2.out.1
          rw [HMC.out] at h9
          exact h9.mono (fn_step hs5 hs3) (fun q hq => by
            rcases hq with hq | hq
            · have := HF1.out q hq; omega
            · exact hq.2)
        obtain ⟨k1, k2⟩ := HUP.out _ _ hm6 (HK1.out.trans (HST2.out.2.mono hs5 (fun q hq e => by
          rcases e with e | e
          · exact e
          · omega)))
        exact ⟨rfl, k1, k2⟩
    · obtain ⟨tb, htb0⟩ : ∃ n : Nat, n = 255 := ⟨_, rfl⟩
      have htb : typeB cy = tb := by unfold typeB; rw [if_neg hcy, htb0]
      have htl : tb < 256 := by omega
      subst htb0
      have HTB : Hid (typeB cy = 255) := Lib.hid htb
      have HST : Hid (wrL (wrL (wrL (wrL m a (littleN cb.toNat 8)) (a + 8) (littleN ct.toNat 8)) (a + 16) (littleN ca.toNat 8)) (a + 24) [pr, 255, 0, 0, 0, 0, 0, 0] = wrL m a (capB ⟨cb, ct, ca, cp, cy, cg⟩)) := Lib.hid (by rw [putC_steps, hpr, htb])
      have HBY : Hid (∀ b ∈ [pr, 255, 0, 0, 0, 0, 0, 0], b < 256) := Lib.hid (fun b hb => by
        simp only [List.mem_cons, List.not_mem_nil, or_false] at hb
        rcases hb with h | h | h | h | h | h | h | h <;> omega)
      clear htb hpr hrest
      go_enter Tryz.func39, Tryz.ntmps39
      go_upto_region 1 with fail
      rw [HW1.out, HSE.out]
      go_wp2_with fail
      refine HSP.out.mono ?_; rintro e W0 ⟨rfl, rfl⟩
      go_wp2_with fail
      refine (rlittle8 cb W1 b0 b1).mono ?_; rintro e U0 ⟨va, vc, rfl, hown, hb⟩
      have HC := Lib.hid (rwr_step HM1.out HK1.out HF1.out hb hown a (fun i hi => by first | exact HIN.out 0 i hi (by decide) | (simp only [HWP.out]; exact HIN.out 0 i hi (by decide))) (littleN_lt _ _))
      clear hown hb
      go_wp2_with fail
      refine HC.out.mono ?_; rintro e W2 ⟨rfl, hm, hk⟩
      have HM1 := Lib.hid hm
      have HK1 := Lib.hid hk
      have cS : W2.cell? ⟨S, 1, none⟩ = some (.int .u64 ct) := (HX.out.kp hk HX.out.lt (fun e => Nat.lt_irrefl _ (HFL.out S e))).cell 1
      clear hm hk HC
      go_wp2_with fail
      refine (rlittle8 ct W2 t0 t1).mono ?_; rintro e U0 ⟨va, vc, rfl, hown, hb⟩
      have HC := Lib.hid (rwr_step HM1.out HK1.out HF1.out hb hown (a + 8) (fun i hi => by first | exact HIN.out 8 i hi (by decide) | (simp only [HWP.out]; exact HIN.out 8 i hi (by decide))) (littleN_lt _ _))
      rw [show ((a + 8 : Nat) : Int) = (a : Int) + 8 by omega] at HC
      clear hown hb
      go_wp2_with fail
      refine HC.out.mono ?_; rintro e W3 ⟨rfl, hm, hk⟩
      have HM1 := Lib.hid hm
      have HK1 := Lib.hid hk
      have cS : W3.cell? ⟨S, 2, none⟩ = some (.int .u64 ca) := (HX.out.kp hk HX.out.lt (fun e => Nat.lt_irrefl _ (HFL.out S e))).cell 2
      clear hm hk HC
      go_wp2_with fail
      refine (rlittle8 ca W3 a0 a1).mono ?_; rintro e U0 ⟨va, vc, rfl, hown, hb⟩
      have HC := Lib.hid (rwr_step HM1.out HK1.out HF1.out hb hown (a + 16) (fun i hi => by first | exact HIN.out 16 i hi (by decide) | (simp only [HWP.out]; exact HIN.out 16 i hi (by decide))) (littleN_lt _ _))
      rw [show ((a + 16 : Nat) : Int) = (a : Int) + 16 by omega] at HC
      clear hown hb
      go_wp2_with fail
      refine HC.out.mono ?_; rintro e W4 ⟨rfl, hm, hk⟩
      have HM1 := Lib.hid hm
      have HK1 := Lib.hid hk
      have cS : W4.cell? ⟨S, 3, none⟩ = some (.int .i64 cp) := (HX.out.kp hk HX.out.lt (fun e => Nat.lt_irrefl _ (HFL.out S e))).cell 3
      clear hm hk HC
      obtain ⟨V0, hV0⟩ : ∃ V, W4.alloc (.cells #[.int .u8 (pr : Int), .int .u8 255, .int .u8 0, .int .u8 0, .int .u8 0, .int .u8 0, .int .u8 0, .int .u8 0] 5) = V := ⟨_, rfl⟩
      have hbv : Below W4.heap.size W4 V0 := by rw [← hV0]; exact bAlloc (Below.refl _ _) _
      have how : V0.ownsRow W4.heap.size 5 1 (.slice (some ⟨W4.heap.size, 0, none⟩) 8 8) 8 (u8s [pr, 255, 0, 0, 0, 0, 0, 0]) := by
        rw [← hV0]
        exact World.ownsRow_lit (base := W4.heap.size) (e := 5) (size := 1) W4 #[.int .u8 (pr : Int), .int .u8 255, .int .u8 0, .int .u8 0, .int .u8 0, .int .u8 0, .int .u8 0, .int .u8 0] 8 (Nat.le_refl _) (by show 8 ≤ maxLen; decide) rfl
      have HC := Lib.hid (rwr_step HM1.out HK1.out HF1.out hbv how (a + 24) (fun i hi => by simp only [HWP.out]; exact HIN.out 24 i hi (by decide)) HBY.out)
      rw [show ((a + 24 : Nat) : Int) = (a : Int) + 24 by omega, HST.out] at HC
      clear how hbv
      go_wp2_with fail
      refine HC.out.mono ?_; rintro e W5 ⟨rfl, hm, hk⟩
      have HM1 := Lib.hid hm
      have HK1 := Lib.hid hk
      have cS5 : W5.cell? ⟨S, 5, none⟩ = some (.bool cg) := (HX.out.kp hk HX.out.lt (fun e => Nat.lt_irrefl _ (HFL.out S e))).cell 5
      clear hm hk HC hV0 cS cS4
      cases cg with
      | false =>
        go_wp2_with fail
        go_ret
        obtain ⟨k1, k2⟩ := HUP.out _ _ HM1.out HK1.out
        exact ⟨rfl, k1, k2⟩
      | true =>
        obtain ⟨na, cA, ka, nc, cc, kc, cs, hO⟩ := HM1.out
        have c2 : W5.cell? ⟨R, 2, none⟩ = some (.slice ka (wrL m a (capB ⟨cb, ct, ca, cp, cy, true⟩)).mks.length kc) := hO.box.cell 2
        have HBX := Lib.hid hO.box
        have hml := mks_len hO.ok
        have hrk := hO.rk.1
        have HTG := Lib.hid (fun (U : World) (hb : Below W5.heap.size W5 U) (ra : Option Addr) (rc : Nat) ho => rtag_step hO (g := a / 32) HNG.out HPP.out hb (ra := ra) (rc := rc) ho)
        have HMC : Hid (tagP (wrL m a (capB ⟨cb, ct, ca, cp, cy, true⟩)) (a / 32) = putC m a ⟨cb, ct, ca, cp, cy, true⟩) := Lib.hid rfl
        obtain ⟨mk, hmk⟩ : ∃ z, wrL m a (capB ⟨cb, ct, ca, cp, cy, true⟩) = z := ⟨_, rfl⟩
        rw [hmk] at c2 HBX hml hrk HTG HMC
        have hc5 := rput_any ka mk.mks.length kc (mk.mks.map (32 * ·)) (32 * (a / 32)) W5 hrk (by omega)
        rw [ins_map, List.length_map, length_ins, HA32.out] at hc5
        have HC := Lib.hid hc5
        obtain ⟨z, hz⟩ : ∃ z, mk.mks.length = z := ⟨_, rfl⟩
        rw [hz] at c2 HBX HTG HC
        clear hO hml hrk hmk hz hc5
        go_wp2_with fail
        refine HC.out.mono ?_; rintro e U ⟨⟨ra, rc, rfl, hown⟩, hb⟩
        have hst := HTG.out U hb ra rc hown
        have hbx := boxN_below HBX.out hb
        have t2 : U.cell? ⟨R, 2, none⟩ = some (.slice ka z kc) := hbx.cell 2
        have tz : U.frozen? ⟨R, 2, none⟩ = false := hbx.frozen 2
        have HST2 := Lib.hid hst
        clear hown hb hst hbx c2
        go_wp2_with fail
        obtain ⟨W6, hW6⟩ : ∃ W6, U.setCell ⟨R, 2, none⟩ (.slice ra (z + 1) rc) = W6 := ⟨_, rfl⟩
        rw [hW6] at HST2 ⊢
        clear hW6 t2 tz
        go_ret
        have hs3 := HST2.out.2.size
        have hs5 := HK1.out.size
        have hm6 : RmAt W6 R (FN F W1 W6) (putC m a ⟨cb, ct, ca, cp, cy, true⟩) := by
          have h9 := HST2.out.1
          rw [HMC.out] at h9
          exact h9.mono (fn_step hs5 hs3) (fun q hq => by
            rcases hq with hq | hq
            · have := HF1.out q hq; omega
            · exact hq.2)
        obtain ⟨k1, k2⟩ := HUP.out _ _ hm6 (HK1.out.trans (HST2.out.2.mono hs5 (fun q hq e => by
          rcases e with e | e
          · exact e
          · omega)))
        exact ⟨rfl, k1, k2⟩
  · have hl : storeC m a ⟨cb, ct, ca, cp, cy, cg⟩ = (m, spotE m a) := by unfold storeC; rw [if_neg he]
    rw [hl]
    obtain ⟨e1, he1⟩ : ∃ e, spotE m a = e := ⟨_, rfl⟩
    rw [he1] at HSP he ⊢
    clear hl he1 h h1 hB hS hW1 hz1 hcc
    go_enter Tryz.func39, Tryz.ntmps39
    go_upto_region 1 with fail
    rw [HW1.out, HSE.out]
    go_wp2_with fail
    refine HSP.out.mono ?_; rintro e W2 ⟨rfl, rfl⟩
    go_wp2_with fail
    go_ret
    obtain ⟨k1, k2⟩ := HUP.out _ _ HM1.out (KP.refl _ _ _)
    exact ⟨rfl, k1, k2⟩
end Go.Proofs.YtegoddghfjfibaaGreatDoor

namespace Go.Proofs.YtegoddghfjfibaaGreatDoor
set_option linter.unusedVariables false
set_option linter.unusedSimpArgs false
open Go.Joins Go.ChangeShapes Go.WideShapes Go.ChangeAt Go.RowKit Go.Deep

end Go.Proofs.YtegoddghfjfibaaGreatDoor

namespace Go.Proofs.YtegoddghfjfibaaGreatDoor
set_option linter.unusedVariables false
set_option linter.unusedSimpArgs false
open Go.Joins Go.ChangeShapes Go.WideShapes Go.ChangeAt Go.RowKit Go.Deep

def rightB (c : Cp) : Bool := decide (0 ≤ c.p) && (decide (c.p ≤ 255) && (decide (-1 ≤ c.y) && decide (c.y ≤ 63)))
theorem right_any (c : Cp) (w : World) :
    Calls Tryz.prog 24 #[.agg (capC c).toArray] w fun e w' => e = .returned (.bool (rightB c)) ∧ Below w.heap.size w w' := by
  obtain ⟨cb, ct, ca, cp, cy, cg⟩ := c
  have hcc : (capC ⟨cb, ct, ca, cp, cy, cg⟩).toArray = #[.int .u64 cb, .int .u64 ct, .int .u64 ca, .int .i64 cp, .int .i64 cy, .bool cg] := rfl
  rw [hcc]
  clear hcc
  obtain ⟨q, hq⟩ : ∃ q, rightB ⟨cb, ct, ca, cp, cy, cg⟩ = q := ⟨_, rfl⟩
  rw [hq]
  have hq2 : (decide (0 ≤ cp) && (decide (cp ≤ 255) && (decide (-1 ≤ cy) && decide (cy ≤ 63)))) = q := hq
  clear hq
  by_cases a1 : 0 ≤ cp
  · by_cases a2 : cp ≤ 255
    · by_cases a3 : -1 ≤ cy
      · by_cases a4 : cy ≤ 63
        · have hqt : true = q := by rw [← hq2, decide_eq_true a1, decide_eq_true a2, decide_eq_true a3, decide_eq_true a4]; rfl
          subst hqt
          clear hq2
          go_enter Tryz.func24, Tryz.ntmps24
          go_wp2_with fail
          go_ret
          exact ⟨rfl, bAlloc (Below.refl _ _) _⟩
        · have hqf : false = q := by rw [← hq2, decide_eq_false a4]; simp
          subst hqf
          clear hq2
          go_enter Tryz.func24, Tryz.ntmps24
          go_wp2_with fail
          go_ret
          exact ⟨rfl, bAlloc (Below.refl _ _) _⟩
      · have hqf : false = q := by rw [← hq2, decide_eq_false a3]; simp
        subst hqf
        clear hq2
        go_enter Tryz.func24, Tryz.ntmps24
        go_wp2_with fail
        go_ret
        exact ⟨rfl, bAlloc (Below.refl _ _) _⟩
    · have hqf : false = q := by rw [← hq2, decide_eq_false a2]; simp
      subst hqf
      clear hq2
      go_enter Tryz.func24, Tryz.ntmps24
      go_wp2_with fail
      go_ret
      exact ⟨rfl, bAlloc (Below.refl _ _) _⟩
  · have hqf : false = q := by rw [← hq2, decide_eq_false a1]; simp
    subst hqf
    clear hq2
    go_enter Tryz.func24, Tryz.ntmps24
    go_wp2_with fail
    go_ret
    exact ⟨rfl, bAlloc (Below.refl _ _) _⟩
end Go.Proofs.YtegoddghfjfibaaGreatDoor


