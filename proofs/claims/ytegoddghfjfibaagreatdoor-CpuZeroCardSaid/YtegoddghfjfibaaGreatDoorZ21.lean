/- CuB CuC -/
import Derived.Test.YtegoddghfjfibaaGreatDoorZ20
import Derived.BigQuiet
import Derived.Deep.RegionLaw
import Derived.Deep.RegionHeld3
namespace Go.Proofs.YtegoddghfjfibaaGreatDoor
set_option linter.unusedVariables false
set_option linter.unusedSimpArgs false
open Go.Joins Go.ChangeShapes Go.WideShapes Go.ChangeAt Go.RowKit Go.Deep

theorem cint_any (x : Int) (w : World) : Calls Tryz.prog 116 #[.int .u64 x] w fun e w' => e = .returned (.agg (capC (intP x)).toArray) ∧ Below w.heap.size w w' :=
  (Ce.int_any x w).mono fun e w' h => ⟨h.1, h.2 ▸ bAlloc (Below.refl _ _) _⟩
theorem cnull_any (w : World) : Calls Tryz.prog 48 #[] w fun e w' => e = .returned (.agg (capC nullC).toArray) ∧ Below w.heap.size w w' :=
  (Ce.null_any w).mono fun e w' h => h
theorem cmove_any (c : Cp) (x : Int) (w : World) : Calls Tryz.prog 135 #[.agg (capC c).toArray, .int .u64 x] w fun e w' => e = .returned (.agg (capC (moveP c x)).toArray) ∧ Below w.heap.size w w' :=
  (Ce.move_any c.b c.t c.a c.p c.y c.g x w).mono fun e w' h => h
theorem cand_any (c : Cp) (x : Int) (w : World) : Calls Tryz.prog 141 #[.agg (capC c).toArray, .int .i64 x] w fun e w' => e = .returned (.agg (capC (andP c x)).toArray) ∧ Below w.heap.size w w' :=
  (Ce.and_any c.b c.t c.a c.p c.y c.g x w).mono fun e w' h => h
theorem cbound_any (c : Cp) (hc : FitC c) (x : Int) (h0 : 0 ≤ x) (w : World) : Calls Tryz.prog 140 #[.agg (capC c).toArray, .int .u64 x] w fun e w' => e = .returned (.agg (capC (boundP c x)).toArray) ∧ Below w.heap.size w w' := by
  obtain ⟨b0, b1, t0, t1, a0, a1⟩ := hc
  exact (Ce.bound_any c.b c.t c.a c.p c.y c.g x w a0 a1 h0 t1).mono fun e w' h => h
theorem cseal_any (c k : Cp) (hk : FitC k) (w : World) : Calls Tryz.prog 143 #[.agg (capC c).toArray, .agg (capC k).toArray] w fun e w' => e = .returned (.agg (capC (sealP c k)).toArray) ∧ Below w.heap.size w w' := by
  obtain ⟨b0, b1, t0, t1, a0, a1⟩ := hk
  exact (Ce.seal_any c.b c.t c.a c.p c.y c.g k.b k.t k.a k.p k.y k.g w a0).mono fun e w' h => h
theorem cunseal_any (c k : Cp) (hk : FitC k) (w : World) : Calls Tryz.prog 144 #[.agg (capC c).toArray, .agg (capC k).toArray] w fun e w' => e = .returned (.agg (capC (unsealP c k)).toArray) ∧ Below w.heap.size w w' := by
  obtain ⟨b0, b1, t0, t1, a0, a1⟩ := hk
  exact (Ce.unseal_any c.b c.t c.a c.p c.y c.g k.b k.t k.a k.p k.y k.g w a0).mono fun e w' h => h
theorem cclear_any (c : Cp) (w : World) : Calls Tryz.prog 147 #[.agg (capC c).toArray] w fun e w' => e = .returned (.agg (capC (clearP c)).toArray) ∧ Below w.heap.size w w' :=
  (Ce.clear_any c.b c.t c.a c.p c.y c.g w).mono fun e w' h => ⟨h.1, by rw [← h.2]; exact bAlloc (bAlloc (Below.refl _ _) _) _⟩
theorem ccheck_any (c : Cp) (hc : FitC c) (n p : Int) (h0 : 0 ≤ n) (w : World) : Calls Tryz.prog 85 #[.agg (capC c).toArray, .int .u64 n, .int .i64 p] w fun e w' => e = .returned (.int .i64 (checkP c n p)) ∧ Below w.heap.size w w' := by
  obtain ⟨b0, b1, t0, t1, a0, a1⟩ := hc
  exact (Ce.check_any c.b c.t c.a c.p c.y c.g n p w a0 a1 h0).mono fun e w' h => h
theorem cwithin_any (c d : Cp) (w : World) : Calls Tryz.prog 146 #[.agg (capC c).toArray, .agg (capC d).toArray] w fun e w' => e = .returned (.bool (withinP c d)) ∧ Below w.heap.size w w' :=
  (Ce.within_any c.b c.t c.a c.p c.y c.g d.b d.t d.a d.p d.y d.g w).mono fun e w' h => h
/-! Registers. -/
theorem regP_pos {rs : List Cp} {n : Nat} (h0 : n ≠ 0) (hn : n < rs.length) : regP rs n = rs[n] := by
  unfold regP; rw [if_neg h0, List.getD_eq_getElem?_getD, List.getElem?_eq_getElem hn]; rfl
theorem regP_fit {rs : List Cp} (h : ∀ c ∈ rs, FitC c) (n : Nat) : FitC (regP rs n) := by
  have hz : FitC nullC := ⟨by decide, by decide, by decide, by decide, by decide, by decide⟩
  unfold regP
  split
  · exact hz
  · rw [List.getD_eq_getElem?_getD]
    cases h1 : rs[n]? with
    | none => exact hz
    | some c => exact h c (List.mem_of_getElem? h1)
set_option maxHeartbeats 1000000 in
theorem mread_any (W : World) (A M : Nat) (pc : Cp) (rs : List Cp) (h : McAt W A M pc rs) (n : Nat) (hn : n < 32) :
    Calls Tryz.prog 96 #[.pointer (some ⟨A, 0, none⟩), .int .i64 (n : Int)] W fun e w' => e = .returned (.agg (capC (regP rs n)).toArray) ∧ Below W.heap.size W w' := by
  by_cases h0 : n = 0
  · subst h0
    have HN := Lib.hid (fun w => cnull_any w)
    rw [show regP rs 0 = nullC from rfl]
    clear h
    go_enter Tryz.func96, Tryz.ntmps96
    go_wp2_with fail
    refine (HN.out _).mono ?_; rintro e w1 ⟨rfl, hb⟩
    have HB := Lib.hid ((bAlloc (Below.refl W.heap.size W) (.cells #[.int .u64 0, .int .u64 0, .int .u64 0, .int .i64 0, .int .i64 0, .bool false] 24)).trans (hb.mono (by rw [size_alloc]; omega)))
    have X1 := Lib.hid ((BoxN.new W _ _).below hb (by rw [size_alloc]; omega))
    clear hb
    obtain ⟨⟨c0, c1, c2, c3, c4, c5⟩, f0, f1, f2, f3, f4, f5⟩ := boxN6 X1.out
    unfold nullC capC
    go_wp2_with fail
    exact bodyPost_ret (v := .agg #[.int .u64 0, .int .u64 0, .int .u64 0, .int .i64 0, .int .i64 (-1), .bool false]) (by simp [results, Tryz.results96, go_sem, c0, c1, c2, c3, c4, c5]) rfl ⟨rfl, below_set6 HB.out (Nat.le_refl _)⟩
  · have hl : n < rs.length := by rw [h.len]; exact hn
    rw [regP_pos h0 hl]
    have hb := bAlloc (Below.refl W.heap.size W) (.cells #[.int .u64 0, .int .u64 0, .int .u64 0, .int .i64 0, .int .i64 0, .bool false] 24)
    obtain ⟨a0, a1, a2, a3, a4, a5⟩ := range6 ((h.below hb).reg n hl)
    obtain ⟨c, hc⟩ : ∃ c, rs[n] = c := ⟨_, rfl⟩
    rw [hc] at a0 a1 a2 a3 a4 a5 ⊢
    obtain ⟨cb, ct, ca, cp, cy, cg⟩ := c
    simp only [] at a0 a1 a2 a3 a4 a5
    have k0 : (0 : Int) ≤ (n : Int) := by omega
    have k1 : (n : Int) < 32 := by omega
    have e1 : ((n : Int) == 0) = false := by simp; omega
    clear hc hb hl h
    go_enter Tryz.func96, Tryz.ntmps96
    go_wp2_with fail
    exact bodyPost_ret (v := .agg #[.int .u64 cb, .int .u64 ct, .int .u64 ca, .int .i64 cp, .int .i64 cy, .bool cg]) (by simp [results, Tryz.results96, go_sem]) rfl ⟨rfl, by first | (repeat' (first | (with_reducible refine Below.setCell ?_ ?_ _) | (with_reducible refine bAlloc ?_ _) | (with_reducible exact Below.refl _ _) | (simp; done) | (simp; omega))) | skip⟩
set_option maxHeartbeats 1000000 in
theorem mwrite_any (W : World) (A M : Nat) (pc : Cp) (rs : List Cp) (h : McAt W A M pc rs) (n : Nat) (hn : n < 32) (c : Cp) :
    Calls Tryz.prog 90 #[.pointer (some ⟨A, 0, none⟩), .int .i64 (n : Int), .agg (capC c).toArray] W fun e w' => e = .returned (.tuple #[]) ∧ McAt w' A M pc (putP rs n c) ∧ KP W.heap.size (fun b => b = A) W w' := by
  obtain ⟨cb, ct, ca, cp, cy, cg⟩ := c
  have hcc : (capC ⟨cb, ct, ca, cp, cy, cg⟩).toArray = #[.int .u64 cb, .int .u64 ct, .int .u64 ca, .int .i64 cp, .int .i64 cy, .bool cg] := rfl
  rw [hcc]
  obtain ⟨W0, hW0⟩ : ∃ W0, W.alloc (.cells #[.int .u64 cb, .int .u64 ct, .int .u64 ca, .int .i64 cp, .int .i64 cy, .bool cg] 24) = W0 := ⟨_, rfl⟩
  have hb : Below W.heap.size W W0 := by rw [← hW0]; exact bAlloc (Below.refl _ _) _
  have HW0 := Lib.hid hW0
  have hx : BoxN W0 W.heap.size #[.int .u64 cb, .int .u64 ct, .int .u64 ca, .int .i64 cp, .int .i64 cy, .bool cg] := by rw [← hW0]; exact BoxN.new W _ _
  obtain ⟨⟨x0, x1, x2, x3, x4, x5⟩, -⟩ := boxN6 hx
  have H0 := Lib.hid (h.below hb)
  have HK := Lib.hid (KP.of_below (fun b => b = A) hb)
  by_cases h0 : n = 0
  · subst h0
    rw [show putP rs 0 ⟨cb, ct, ca, cp, cy, cg⟩ = rs from rfl]
    clear h hW0 hb hx hcc
    go_enter Tryz.func90, Tryz.ntmps90
    go_upto_region 1 with fail
    (try rw [HW0.out])
    go_wp2_with fail
    go_end0
    exact ⟨rfl, H0.out, HK.out⟩
  · have hl : n < rs.length := by rw [h.len]; exact hn
    obtain ⟨a0, a1, a2, a3, a4, a5⟩ := range6 (H0.out.reg n hl)
    obtain ⟨f0, f1, f2, f3, f4, f5⟩ := there6 (H0.out.regThere n hl)
    obtain ⟨d, hd⟩ : ∃ d, rs[n] = d := ⟨_, rfl⟩
    rw [hd] at a0 a1 a2 a3 a4 a5
    obtain ⟨db, dt, da, dp, dy, dg⟩ := d
    simp only [] at a0 a1 a2 a3 a4 a5
    have hp : putP rs n ⟨cb, ct, ca, cp, cy, cg⟩ = rs.set n ⟨cb, ct, ca, cp, cy, cg⟩ := by unfold putP; rw [if_neg h0]
    rw [hp]
    have hs1 := (H0.out.setReg n hl ⟨cb, ct, ca, cp, cy, cg⟩).below (Below.drew (Below.refl _ _))
    have hk1 : KP W.heap.size (fun b => b = A) W (W0.setCells A (6 + n * 6) (capC ⟨cb, ct, ca, cp, cy, cg⟩)) := kp_setCells (S := fun b => b = A) A (Or.inr rfl) _ _ _ HK.out
    have hk2 := hk1.drew
    have e6 : W0.setCells A (6 + n * 6) (capC ⟨cb, ct, ca, cp, cy, cg⟩) = _ := set6_eq W0 A (6 + n * 6) (.int .u64 cb) (.int .u64 ct) (.int .u64 ca) (.int .i64 cp) (.int .i64 cy) (.bool cg)
    rw [e6] at hs1 hk2
    have HS := Lib.hid hs1
    have HK2 := Lib.hid hk2
    clear hs1 hk1 hk2 e6
    have k0 : (0 : Int) ≤ (n : Int) := by omega
    have k1 : (n : Int) < 32 := by omega
    have e1 : ((n : Int) == 0) = false := by simp; omega
    have e2 : ((n : Int) != 0) = true := by simp; omega
    clear h hW0 hb hx hcc hp hd hl
    go_enter Tryz.func90, Tryz.ntmps90
    go_upto_region 1 with fail
    (try rw [HW0.out])
    go_upto_region 2 with fail
    go_region_law (fail)
    go_end0
    exact ⟨rfl, HS.out, HK2.out⟩
end Go.Proofs.YtegoddghfjfibaaGreatDoor

namespace Go.Proofs.YtegoddghfjfibaaGreatDoor
set_option linter.unusedVariables false
set_option linter.unusedSimpArgs false
open Go.Joins Go.ChangeShapes Go.WideShapes Go.ChangeAt Go.RowKit Go.Deep

theorem McAt.pc6 {W : World} {A M : Nat} {rs : List Cp} {b t a p y : Int} {g : Bool} (h : McAt W A M ⟨b, t, a, p, y, g⟩ rs) : W.cell? ⟨A, 0, none⟩ = some (.int .u64 b) ∧ W.cell? ⟨A, 1, none⟩ = some (.int .u64 t) ∧ W.cell? ⟨A, 2, none⟩ = some (.int .u64 a) ∧ W.cell? ⟨A, 3, none⟩ = some (.int .i64 p) ∧ W.cell? ⟨A, 4, none⟩ = some (.int .i64 y) ∧ W.cell? ⟨A, 5, none⟩ = some (.bool g) :=
  ⟨h.pcAt 0 _ rfl, h.pcAt 1 _ rfl, h.pcAt 2 _ rfl, h.pcAt 3 _ rfl, h.pcAt 4 _ rfl, h.pcAt 5 _ rfl⟩
theorem kp6 {n : Nat} {S : Nat → Prop} {A B : World} (h : KP n S A B) (R : Nat) (hR : n ≤ R ∨ S R) (v0 v1 v2 v3 v4 v5 : Value) : KP n S A ((((((B.setCell ⟨R, 0, none⟩ v0).setCell ⟨R, 1, none⟩ v1).setCell ⟨R, 2, none⟩ v2).setCell ⟨R, 3, none⟩ v3).setCell ⟨R, 4, none⟩ v4).setCell ⟨R, 5, none⟩ v5) :=
  (((((h.set ⟨R, 0, none⟩ hR v0).set ⟨R, 1, none⟩ hR v1).set ⟨R, 2, none⟩ hR v2).set ⟨R, 3, none⟩ hR v3).set ⟨R, 4, none⟩ hR v4).set ⟨R, 5, none⟩ hR v5
theorem McAt.off6 {W : World} {A M R : Nat} {pc : Cp} {rs : List Cp} (h : McAt W A M pc rs) (hR : R ≠ A) (v0 v1 v2 v3 v4 v5 : Value) : McAt ((((((W.setCell ⟨R, 0, none⟩ v0).setCell ⟨R, 1, none⟩ v1).setCell ⟨R, 2, none⟩ v2).setCell ⟨R, 3, none⟩ v3).setCell ⟨R, 4, none⟩ v4).setCell ⟨R, 5, none⟩ v5) A M pc rs :=
  h.kp (kp6 (KP.refl W.heap.size (· = R) W) R (Or.inr rfl) v0 v1 v2 v3 v4 v5) h.lt (fun e => hR e.symm)
abbrev zer6 : Array Value := #[.int .u64 0, .int .u64 0, .int .u64 0, .int .i64 0, .int .i64 0, .bool false]
set_option maxHeartbeats 2000000 in
theorem ahead_any (W : World) (A M : Nat) (pc : Cp) (rs : List Cp) (h : McAt W A M pc rs) (n : Int) :
    Calls Tryz.prog 88 #[.pointer (some ⟨A, 0, none⟩), .int .u64 n] W fun e w' => e = .returned (.agg (capC (aheadP pc n)).toArray) ∧ Below W.heap.size W w' := by
  have C := Lib.hid (fun w => cmove_any pc (IntKind.u64.wrap (pc.a + n)) w)
  unfold aheadP
  obtain ⟨d, hd⟩ : ∃ d, moveP pc (IntKind.u64.wrap (pc.a + n)) = d := ⟨_, rfl⟩
  rw [hd] at C ⊢
  obtain ⟨db, dt, da, dp, dy, dg⟩ := d
  clear hd
  obtain ⟨b, t, a, p, y, g⟩ := pc
  have hb := bAlloc (Below.refl W.heap.size W) (.cells zer6 24)
  have HS := Lib.hid ((h.below hb).pc6)
  have HX := Lib.hid (BoxN.new W zer6 24)
  have HM := Lib.hid (h.below hb)
  have HB := Lib.hid hb
  have HSd : Hid _ := Lib.hid (((h.below hb).below (Below.drew (Below.refl _ _))).pc6)
  simp only [] at C
  unfold capC at C ⊢
  simp only [] at C ⊢
  obtain ⟨W0, hW0⟩ : ∃ W0, W.alloc (.cells zer6 24) = W0 := ⟨_, rfl⟩
  rw [hW0] at HS HX HB HSd HM
  have HW0 := Lib.hid hW0
  have HNA : Hid (W.heap.size ≠ A) := Lib.hid (fun e => by have := h.lt; omega)
  clear hW0 h hb
  go_enter Tryz.func88, Tryz.ntmps88
  go_upto_region 1 with fail
  (try rw [HW0.out])
  go_region_held3 (fun W1 => W1.cell? ⟨A, 0, none⟩ = some (.int .u64 b) ∧ W1.cell? ⟨A, 1, none⟩ = some (.int .u64 t) ∧ W1.cell? ⟨A, 2, none⟩ = some (.int .u64 a) ∧ W1.cell? ⟨A, 3, none⟩ = some (.int .i64 p) ∧ W1.cell? ⟨A, 4, none⟩ = some (.int .i64 y) ∧ W1.cell? ⟨A, 5, none⟩ = some (.bool g))
    (first | with_reducible exact HS.out | with_reducible exact HSd.out | with_reducible exact HS2.out | with_reducible exact HS3.out)
    (first | (go_at_call 135; refine (C.out _).mono ?_; rintro e W2 ⟨rfl, hb2⟩; have HB2 : Hid (Below W0.heap.size W0 W2) := Lib.hid (by first | exact undrewB hb2 | exact hb2); have HX2 := Lib.hid (boxN_below HX.out HB2.out); have HS2 := Lib.hid ((HM.out.below HB2.out).pc6); have HS3 := Lib.hid (((HM.out.below HB2.out).off6 HNA.out (.int .u64 db) (.int .u64 dt) (.int .u64 da) (.int .i64 dp) (.int .i64 dy) (.bool dg)).pc6); obtain ⟨⟨x0, x1, x2, x3, x4, x5⟩, f0, f1, f2, f3, f4, f5⟩ := boxN6 HX2.out; clear hb2))
  go_wp2_with fail
  have HB9 := Lib.hid (HB.out.trans (HB2.out.mono HB.out.size))
  have y0 := boxN6 (((((((HX2.out.set 0 (.int .u64 db)).set 1 (.int .u64 dt)).set 2 (.int .u64 da)).set 3 (.int .i64 dp)).set 4 (.int .i64 dy)).set 5 (.bool dg)))
  obtain ⟨⟨y0, y1, y2, y3, y4, y5⟩, -⟩ := y0
  exact bodyPost_ret (v := .agg #[.int .u64 db, .int .u64 dt, .int .u64 da, .int .i64 dp, .int .i64 dy, .bool dg]) (by simp [results, Tryz.results88, go_sem, y0, y1, y2, y3, y4, y5]) rfl ⟨rfl, below_set6 HB9.out (Nat.le_refl _)⟩
set_option maxHeartbeats 1000000 in
theorem flag_any (o : Bool) (W : World) : Calls Tryz.prog 145 #[.bool o] W fun e w' => e = .returned (.agg (capC (flagP o)).toArray) ∧ Below W.heap.size W w' := by
  have C := Lib.hid (fun x w => cint_any x w)
  have hb := bAlloc (Below.refl W.heap.size W) (.cells zer6 24)
  have HB := Lib.hid hb
  have HX := Lib.hid (BoxN.new W zer6 24)
  unfold flagP
  unfold intP capC at C ⊢
  simp only [] at C ⊢
  clear hb
  cases o with
  | true =>
    go_enter Tryz.func145, Tryz.ntmps145
    go_wp2_with fail
    refine (C.out 1 _).mono ?_; rintro e w1 ⟨rfl, hb⟩
    have HB1 := Lib.hid (HB.out.trans (hb.mono HB.out.size))
    obtain ⟨⟨c0, c1, c2, c3, c4, c5⟩, f0, f1, f2, f3, f4, f5⟩ := boxN6 (boxN_below HX.out hb)
    clear hb
    go_wp2_with fail
    exact bodyPost_ret (v := .agg #[.int .u64 0, .int .u64 0, .int .u64 1, .int .i64 0, .int .i64 (-1), .bool false]) (by simp [results, Tryz.results145, go_sem, c0, c1, c2, c3, c4, c5]) rfl ⟨rfl, below_set6 HB1.out (Nat.le_refl _)⟩
  | false =>
    go_enter Tryz.func145, Tryz.ntmps145
    go_wp2_with fail
    refine (C.out 0 _).mono ?_; rintro e w1 ⟨rfl, hb⟩
    have HB1 := Lib.hid (HB.out.trans (hb.mono HB.out.size))
    obtain ⟨⟨c0, c1, c2, c3, c4, c5⟩, f0, f1, f2, f3, f4, f5⟩ := boxN6 (boxN_below HX.out hb)
    clear hb
    go_wp2_with fail
    exact bodyPost_ret (v := .agg #[.int .u64 0, .int .u64 0, .int .u64 0, .int .i64 0, .int .i64 (-1), .bool false]) (by simp [results, Tryz.results145, go_sem, c0, c1, c2, c3, c4, c5]) rfl ⟨rfl, below_set6 HB1.out (Nat.le_refl _)⟩
/-- an instruction's value -/
def insV (x : Ins) : Array Value := #[.int .i64 (x.op : Int), .int .i64 (x.rd : Int), .int .i64 (x.r1 : Int), .int .i64 (x.r2 : Int), .int .i64 x.n]
set_option maxHeartbeats 1000000 in
theorem stopped_any (x : Ins) (W : World) (nt : Is.NT W) : Calls Tryz.prog 99 #[.agg (insV x)] W fun e w' => e = .returned (.int .i64 (if nameP x == [101, 99, 97, 108, 108] then 60 else 61)) ∧ Below W.heap.size W w' := by
  obtain ⟨op, rd, r1, r2, n⟩ := x
  unfold insV nameP
  simp only []
  have hb := bAlloc (Below.refl W.heap.size W) (.cells #[.int .i64 (op : Int), .int .i64 (rd : Int), .int .i64 (r1 : Int), .int .i64 (r2 : Int), .int .i64 n] 61)
  have HB := Lib.hid hb
  have C := Lib.hid (Is.name_any (op : Int) _ (nt.on hb))
  obtain ⟨s, hs⟩ : ∃ s, opN (op : Int) = s := ⟨_, rfl⟩
  rw [hs] at C ⊢
  clear hb hs nt
  go_enter Tryz.func99, Tryz.ntmps99
  go_wp2_with fail
  refine C.out.mono ?_; rintro e w1 ⟨rfl, rfl⟩
  go_wp2_with fail
  all_goals
    go_ret
    exact ⟨by simp [*], HB.out⟩
set_option maxHeartbeats 2000000 in
theorem mplace_any (W : World) (A M : Nat) (pc : Cp) (rs : List Cp) (h : McAt W A M pc rs) (x : Ins) (h1 : x.r1 < 32) :
    Calls Tryz.prog 148 #[.pointer (some ⟨A, 0, none⟩), .agg (insV x)] W fun e w' => e = .returned (.agg (capC (placeP x rs)).toArray) ∧ Below W.heap.size W w' := by
  obtain ⟨op, rd, r1, r2, n⟩ := x
  unfold insV placeP
  simp only [] at h1 ⊢
  have C := Lib.hid (fun w (hb : Below W.heap.size W w) => mread_any w A M pc rs (h.below hb) r1 h1)
  obtain ⟨d, hd⟩ : ∃ d, regP rs r1 = d := ⟨_, rfl⟩
  rw [hd] at C ⊢
  obtain ⟨db, dt, da, dp, dy, dg⟩ := d
  simp only []
  unfold capC at C ⊢
  simp only [] at C ⊢
  have hb := bAlloc (Below.refl W.heap.size W) (.cells #[.int .i64 (op : Int), .int .i64 (rd : Int), .int .i64 (r1 : Int), .int .i64 (r2 : Int), .int .i64 n] 61)
  have hb2 : Below W.heap.size W ((W.alloc (.cells #[.int .i64 (op : Int), .int .i64 (rd : Int), .int .i64 (r1 : Int), .int .i64 (r2 : Int), .int .i64 n] 61)).alloc (.cells zer6 24)) := bAlloc hb _
  have HB2 := Lib.hid hb2
  have HX0 := Lib.hid ((BoxN.new W #[.int .i64 (op : Int), .int .i64 (rd : Int), .int .i64 (r1 : Int), .int .i64 (r2 : Int), .int .i64 n] 61).below (bAlloc (Below.refl _ _) (.cells zer6 24)) (by rw [size_alloc]; omega))
  have HX1 := Lib.hid (BoxN.new (W.alloc (.cells #[.int .i64 (op : Int), .int .i64 (rd : Int), .int .i64 (r1 : Int), .int .i64 (r2 : Int), .int .i64 n] 61)) zer6 24)
  rw [size_alloc] at HX1
  obtain ⟨W0, hW0⟩ : ∃ W0, (W.alloc (.cells #[.int .i64 (op : Int), .int .i64 (rd : Int), .int .i64 (r1 : Int), .int .i64 (r2 : Int), .int .i64 n] 61)).alloc (.cells zer6 24) = W0 := ⟨_, rfl⟩
  rw [hW0] at HB2 HX0 HX1
  have HW0 := Lib.hid hW0
  clear hW0 h hb hb2 hd
  go_enter Tryz.func148, Tryz.ntmps148
  go_upto_region 1 with fail
  (try rw [HW0.out])
  have z2 := HX0.out.cell 2
  simp only [List.getElem?_toArray, List.getElem?_cons_succ, List.getElem?_cons_zero] at z2
  go_wp2_with fail
  refine (C.out W0 HB2.out).mono ?_; rintro e w1 ⟨rfl, hb⟩
  have HBA := Lib.hid (HB2.out.trans (hb.mono HB2.out.size))
  have hX0 := boxN_below HX0.out hb
  have hX1 := boxN_below HX1.out hb
  obtain ⟨w2, hw2⟩ : ∃ w2, w1.alloc (.cells #[.int .u64 db, .int .u64 dt, .int .u64 da, .int .i64 dp, .int .i64 dy, .bool dg] 24) = w2 := ⟨_, rfl⟩
  have hba : Below w1.heap.size w1 w2 := by rw [← hw2]; exact bAlloc (Below.refl _ _) _
  have HW2 := Lib.hid hw2
  have HBB := Lib.hid (HBA.out.trans (hba.mono HBA.out.size))
  have hX2 : BoxN w2 w1.heap.size #[.int .u64 db, .int .u64 dt, .int .u64 da, .int .i64 dp, .int .i64 dy, .bool dg] := by rw [← hw2]; exact BoxN.new _ _ _
  have hX0' := boxN_below hX0 hba
  obtain ⟨⟨r0, r1', r2', r3, r4, r5⟩, g0, g1, g2, g3, g4, g5⟩ := boxN6 (boxN_below hX1 hba)
  have y4 : w2.cell? ⟨W.heap.size, 4, none⟩ = some (.int .i64 n) := hX0'.cell 4
  obtain ⟨⟨c0, c1, c2, c3, c4, c5⟩, f0, f1, f2, f3, f4, f5⟩ := boxN6 hX2
  have hz0 := hX0.lt
  have hz1 := hX1.lt
  obtain ⟨B0, hB0⟩ : ∃ b, W.heap.size = b := ⟨_, rfl⟩
  obtain ⟨B1, hB1⟩ : ∃ b, B0 + 1 = b := ⟨_, rfl⟩
  obtain ⟨B2, hB2⟩ : ∃ b, w1.heap.size = b := ⟨_, rfl⟩
  rw [hB0] at y4 hz0
  rw [hB0, hB1] at r0 r1' r2' r3 r4 r5 g0 g1 g2 g3 g4 g5 hz1
  rw [hB2] at c0 c1 c2 c3 c4 c5 f0 f1 f2 f3 f4 f5 hz0 hz1
  have n1 : ¬ B0 = B2 := by omega
  have n2 : ¬ B1 = B2 := by omega
  have n3 : ¬ B2 = B0 := by omega
  have n4 : ¬ B2 = B1 := by omega
  have HR := Lib.hid (boxN_below hX1 hba)
  have HZZ := Lib.hid (And.intro hB0 (And.intro hB1 (And.intro hB2 (And.intro hz0 hz1))))
  have HC2 := Lib.hid hX2
  rw [hB0, hB1]
  clear hb hX0 hX1 hw2 hba hX2 hX0' hB0 hB1 hB2 hz0 hz1 C
  go_upto_region 2 with fail
  rw [HW2.out, HZZ.out.2.2.1]
  clear HW2
  go_wp2_with fail
  refine bodyPost_ret (v := .agg #[.int .u64 db, .int .u64 dt, .int .u64 (IntKind.u64.wrap (da + IntKind.u64.wrap n)), .int .i64 dp, .int .i64 dy, .bool dg]) (by simp [results, Tryz.results148, go_sem, *]) rfl ⟨rfl, ?_⟩
  have q1 := HZZ.out.1
  have q2 := HZZ.out.2.1
  have q3 := HZZ.out.2.2.2.2
  exact below_set6 (Below.setCell HBB.out (show W.heap.size ≤ B2 by omega) _) (show W.heap.size ≤ B1 by omega)
end Go.Proofs.YtegoddghfjfibaaGreatDoor

