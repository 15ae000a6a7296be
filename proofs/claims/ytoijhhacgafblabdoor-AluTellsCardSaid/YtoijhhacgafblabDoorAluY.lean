/- The walk of AluTells. -/
import Derived.Test.YtoijhhacgafblabDoorAluQ
namespace Go.Proofs.YtoijhhacgafblabDoor
set_option linter.unusedVariables false
set_option linter.unusedSimpArgs false
open Go.Joins Go.ChangeShapes Go.WideShapes Go.ChangeAt Go.RowKit

set_option maxHeartbeats 2000000 in
set_option maxRecDepth 8000 in
theorem AluTells_walk (op a b : Int) (w : World) (hn : NT w) (ha : Inw a) (hb : Inw b) :
    Calls Tryd.prog 4 #[.int .i64 op, .int .u64 a, .int .u64 b] w fun e w' => e = .returned (.bool true) ∧ Below w.heap.size w w' := by
  have HN := Lib.hid hn
  have Ia := Lib.hid ha; have Ib := Lib.hid hb
  clear hn ha hb
  have hof := fun w => of_any op w
  have hho := fun w hn => holds_any op a b w hn Ia.out.1 Ia.out.2 Ib.out.1 Ib.out.2
  have hwi := fun w hn => width_any op w hn
  unfold opV at hof
  generalize opN op = s at hof hho hwi
  generalize opR op = r at hof
  have hrh := fun w => rholds_any s a b w Ia.out.1 Ia.out.2 Ib.out.1 Ib.out.2
  have hrw := fun w => rwidth_any s w
  generalize holdZ s a b = h at hho hrh
  generalize widthZ s = d at hwi hrw
  obtain ⟨h0, h1⟩ := h
  obtain ⟨d0, d1, d2⟩ := d
  obtain ⟨r0, r1, r2, r3, r4, r5⟩ := r
  simp only at hof hho hwi hrh hrw
  have OF := Lib.hid hof; have HO := Lib.hid hho; have WI := Lib.hid hwi; have RH := Lib.hid hrh; have RW := Lib.hid hrw
  clear hof hho hwi hrh hrw
  go_enter Tryd.func4, Tryd.ntmps4
  go_wp2_with fail
  refine (awake_any _ HN.out).mono ?_; rintro e w1 ⟨rfl, hb⟩
  have B1 := Lib.hid hb
  clear hb
  go_wp2_with fail
  refine (OF.out _).mono ?_; rintro e w2 ⟨rfl, hb⟩
  have B2 := Lib.hid (bAlloc (bTrans B1.out hb) (.cells #[.string ⟨s.toArray⟩, .int .i64 r1, .int .i64 r2, .int .i64 r3, .int .i64 r4, .int .i64 r5] 25))
  clear hb B1
  go_wp2_with fail
  refine (HO.out _ (HN.out.on B2.out)).mono ?_; rintro e w' ⟨rfl, rfl⟩
  go_wp2_with fail
  refine (RH.out _).mono ?_; rintro e w' ⟨rfl, rfl⟩
  go_wp2_with fail
  refine (WI.out _ (HN.out.on B2.out)).mono ?_; rintro e w' ⟨rfl, rfl⟩
  go_wp2_with fail
  refine (RW.out _).mono ?_; rintro e w' ⟨rfl, rfl⟩
  go_wp2_with fail
  go_ret
  exact ⟨rfl, B2.out⟩
end Go.Proofs.YtoijhhacgafblabDoor
