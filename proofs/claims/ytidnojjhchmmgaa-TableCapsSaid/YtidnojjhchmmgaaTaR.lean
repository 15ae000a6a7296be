/- Right, of one object: contract. -/
import Derived.Test.YtidnojjhchmmgaaTaS
namespace Go.Proofs.Ytidnojjhchmmgaa
set_option linter.unusedVariables false
set_option linter.unusedSimpArgs false
open Go.Joins Go.ChangeShapes Go.WideShapes Go.ChangeAt Go.RowKit Go.Deep

def rightQ (o : Ob) (b : Nat) (t : Int) : Bool := decide (checkF o = 0) && (decide (b % 256 = 0) && (decide (b < 16711680) && (decide (0 ≤ t) && decide (t ≤ 63))))
set_option maxHeartbeats 2000000 in
set_option maxRecDepth 100000 in
theorem right1_any (o : Ob) (b : Nat) (t : Int) (A Bb Tt : Nat) (w : World) (hr : RdOb w o) (hf : FitOb o) (hA : BoxN w A (objC o).toArray) (hB : BoxN w Bb #[.int .u64 (b : Int)]) (hT : BoxN w Tt #[.int .i64 t]) :
    Calls Try.prog 6 #[.slice (some ⟨A, 0, none⟩) 1 1, .slice (some ⟨Bb, 0, none⟩) 1 1, .slice (some ⟨Tt, 0, none⟩) 1 1, .slice none 0 0] w fun e w' => e = .returned (.bool (rightQ o b t)) ∧ Below w.heap.size w w' := by
  have HC := Lib.hid (fun w2 (h : Below w.heap.size w w2) => rcheck_any o w2 (hr.below h) hf)
  have HA : Hid (BoxN w A #[.string ⟨o.name.toArray⟩, .slice o.na o.needs.length o.nc, .slice o.ga o.segs.length o.gc, .slice o.sa o.syms.length o.sc, .slice o.ra o.rels.length o.rc, .slice o.ia o.init.length o.ic, .slice o.fa o.fini.length o.fc]) := Lib.hid hA
  rw [show (objC o).toArray = #[.string ⟨o.name.toArray⟩, .slice o.na o.needs.length o.nc, .slice o.ga o.segs.length o.gc, .slice o.sa o.syms.length o.sc, .slice o.ra o.rels.length o.rc, .slice o.ia o.init.length o.ic, .slice o.fa o.fini.length o.fc] from rfl] at HC
  have HB := Lib.hid hB
  have HT := Lib.hid hT
  obtain ⟨q, hq⟩ : ∃ q, rightQ o b t = q := ⟨_, rfl⟩
  rw [hq]
  unfold rightQ at hq
  obtain ⟨r, hrr⟩ : ∃ r, checkF o = r := ⟨_, rfl⟩
  rw [hrr] at HC hq
  have HQ := Lib.hid hq
  obtain ⟨v0, hv0⟩ : ∃ v, (⟨o.name.toArray⟩ : ByteArray) = v := ⟨_, rfl⟩
  obtain ⟨n1, h1⟩ : ∃ v, o.needs.length = v := ⟨_, rfl⟩
  obtain ⟨n2, h2⟩ : ∃ v, o.segs.length = v := ⟨_, rfl⟩
  obtain ⟨n3, h3⟩ : ∃ v, o.syms.length = v := ⟨_, rfl⟩
  obtain ⟨n4, h4⟩ : ∃ v, o.rels.length = v := ⟨_, rfl⟩
  obtain ⟨n5, h5⟩ : ∃ v, o.init.length = v := ⟨_, rfl⟩
  obtain ⟨n6, h6⟩ : ∃ v, o.fini.length = v := ⟨_, rfl⟩
  rw [hv0, h1, h2, h3, h4, h5, h6] at HA HC
  obtain ⟨br, hbr⟩ : ∃ x, b % 256 = x := ⟨_, rfl⟩
  have g1 : (b : Int) % 256 = (br : Int) := by omega
  clear hr hf hA hB hT hq hrr hv0 h1 h2 h3 h4 h5 h6
  go_enter Try.func6, Try.ntmps6
  go_wp2_with fail
  go_loopw [9, 10] (fun i _ wr => ∃ k : Nat, i = .int .i64 k ∧ k ≤ 1 ∧ Hid (k = 1 → q = true) ∧ Hid (Below w.heap.size w wr)) (fun i _ _ => 1 - (intOf i).toNat)
  case atStart => exact ⟨0, rfl, by omega, Lib.hid (fun h => absurd h (by omega)), Lib.hid (Below.refl _ _)⟩
  case round =>
    obtain ⟨k, rfl, hk, HK, HBl⟩ := hrel
    by_cases hlt : k < 1
    · obtain rfl : k = 0 := by omega
      have a0 : wr.cell? ⟨A, 0, none⟩ = some (.string v0) := (HA.out.below HBl.out HA.out.lt).cell 0
      have a1 : wr.cell? ⟨A, 1, none⟩ = some (.slice o.na n1 o.nc) := (HA.out.below HBl.out HA.out.lt).cell 1
      have a2 : wr.cell? ⟨A, 2, none⟩ = some (.slice o.ga n2 o.gc) := (HA.out.below HBl.out HA.out.lt).cell 2
      have a3 : wr.cell? ⟨A, 3, none⟩ = some (.slice o.sa n3 o.sc) := (HA.out.below HBl.out HA.out.lt).cell 3
      have a4 : wr.cell? ⟨A, 4, none⟩ = some (.slice o.ra n4 o.rc) := (HA.out.below HBl.out HA.out.lt).cell 4
      have a5 : wr.cell? ⟨A, 5, none⟩ = some (.slice o.ia n5 o.ic) := (HA.out.below HBl.out HA.out.lt).cell 5
      have a6 : wr.cell? ⟨A, 6, none⟩ = some (.slice o.fa n6 o.fc) := (HA.out.below HBl.out HA.out.lt).cell 6
      go_wp2_with fail
      refine (HC.out _ HBl.out).mono ?_; rintro e w2 ⟨rfl, hb⟩
      have B2 := Lib.hid (HBl.out.trans (hb.mono HBl.out.size))
      have b0 : w2.cell? ⟨Bb, 0, none⟩ = some (.int .u64 (b : Int)) := (HB.out.below B2.out HB.out.lt).cell 0
      have t0 : w2.cell? ⟨Tt, 0, none⟩ = some (.int .i64 t) := (HT.out.below B2.out HT.out.lt).cell 0
      clear hb a0 a1 a2 a3 a4 a5 a6
      by_cases e1 : ¬ (r = 0)
      · have hcd : ((r : Int) != 0) = true := bne_iff_ne.2 e1
        have hqf : false = q := by rw [← HQ.out]; simp [e1, hbr]
        subst hqf
        clear e1
        go_wp2_with fail
        go_ret
        exact ⟨rfl, B2.out⟩
      replace e1 : r = 0 := Decidable.not_not.1 e1
      have hf0 : ((r : Int) != 0) = false := by simp [e1]
      by_cases e2 : ¬ (br = 0)
      · have hcd : ((br : Int) != 0) = true := bne_iff_ne.2 (by omega)
        have hqf : false = q := by rw [← HQ.out]; simp [e1, e2, hbr]
        subst hqf
        clear e2
        go_wp2_with fail
        go_ret
        exact ⟨rfl, B2.out⟩
      replace e2 : br = 0 := Decidable.not_not.1 e2
      have hf1 : ((br : Int) != 0) = false := by simp [e2]
      by_cases e3 : ¬ (b < 16711680)
      · have hcd : decide ((16711680 : Int) ≤ (b : Int)) = true := decide_eq_true (by omega)
        have hqf : false = q := by rw [← HQ.out]; simp [e1, e2, e3, hbr]
        subst hqf
        clear e3
        go_wp2_with fail
        go_ret
        exact ⟨rfl, B2.out⟩
      replace e3 : b < 16711680 := Decidable.not_not.1 e3
      have hf2 : decide ((16711680 : Int) ≤ (b : Int)) = false := decide_eq_false (by omega)
      by_cases e4 : ¬ (0 ≤ t)
      · have hcd : decide (t < 0) = true := decide_eq_true (by omega)
        have hqf : false = q := by rw [← HQ.out]; simp [e1, e2, e3, e4, hbr]
        subst hqf
        clear e4
        go_wp2_with fail
        go_ret
        exact ⟨rfl, B2.out⟩
      replace e4 : 0 ≤ t := Decidable.not_not.1 e4
      have hf3 : decide (t < 0) = false := decide_eq_false (by omega)
      by_cases e5 : ¬ (t ≤ 63)
      · have hcd : decide ((63 : Int) < t) = true := decide_eq_true (by omega)
        have hqf : false = q := by rw [← HQ.out]; simp [e1, e2, e3, e4, e5, hbr]
        subst hqf
        clear e5
        go_wp2_with fail
        go_ret
        exact ⟨rfl, B2.out⟩
      replace e5 : t ≤ 63 := Decidable.not_not.1 e5
      have hf4 : decide ((63 : Int) < t) = false := decide_eq_false (by omega)
      have hqt : true = q := by rw [← HQ.out]; simp [e1, e2, e3, e4, e5, hbr]
      have HKn : Hid (0 + 1 = 1 → q = true) := Lib.hid (fun _ => hqt.symm)
      clear e1 e2 e3 e4 e5 hqt hk hlt HK
      go_wp2_with fail
      go_roundw
      case rel => exact ⟨0 + 1, by go_num, by omega, Lib.hid (fun _ => HKn.out trivial), B2⟩
      case measure => simp [intOf]
    · obtain rfl : k = 1 := by omega
      have hqt := HK.out rfl
      subst hqt
      clear HK
      go_wp2_with fail
      go_loopw [11, 12] (fun i _ ws => i = .int .i64 0 ∧ wr = ws) (fun i _ _ => 0)
      case atStart => exact ⟨rfl, rfl⟩
      case round =>
        obtain ⟨rfl, rfl⟩ := hrel
        go_wp2_with fail
        go_ret
        exact ⟨rfl, HBl.out⟩
end Go.Proofs.Ytidnojjhchmmgaa
