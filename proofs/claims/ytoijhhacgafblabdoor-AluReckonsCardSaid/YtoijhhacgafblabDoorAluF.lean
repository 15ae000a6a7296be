/- isa.Name, and the conditions and widths of a name. -/
import Derived.Test.YtoijhhacgafblabDoorAluN
import Derived.Test.YtoijhhacgafblabDoorAluG
namespace Go.Proofs.YtoijhhacgafblabDoor
set_option linter.unusedVariables false
set_option linter.unusedSimpArgs false
open Go.Joins Go.ChangeShapes Go.WideShapes Go.ChangeAt Go.RowKit

theorem is_yes (op : Int) (w : World) (h1 : 1 ≤ op) (h2 : op ≤ 82) : Calls Tryd.prog 61 #[.int .i64 op] w fun e w' => e = .returned (.bool true) ∧ w = w' := by
  have d1 : decide (1 ≤ op) = true := decide_eq_true h1
  have d2 : decide (op ≤ 82) = true := decide_eq_true h2
  go_enter Tryd.func61, Tryd.ntmps61
  go_wp2_with fail
  go_ret
  exact ⟨by simp [d1, d2], rfl⟩
theorem is_no (op : Int) (w : World) (h : op < 1 ∨ 82 < op) : Calls Tryd.prog 61 #[.int .i64 op] w fun e w' => e = .returned (.bool false) ∧ w = w' := by
  rcases h with h | h
  · have d1 : decide (1 ≤ op) = false := decide_eq_false (by omega)
    go_enter Tryd.func61, Tryd.ntmps61
    go_wp2_with fail
    go_ret
    exact ⟨rfl, rfl⟩
  · have d1 : decide (1 ≤ op) = true := decide_eq_true (by omega)
    have d2 : decide (op ≤ 82) = false := decide_eq_false (by omega)
    go_enter Tryd.func61, Tryd.ntmps61
    go_wp2_with fail
    go_ret
    exact ⟨by simp [d1, d2], rfl⟩
theorem opN_out (op : Int) (h : ¬ (1 ≤ op ∧ op ≤ 82)) : opN op = [] := by unfold opN opR; rw [if_neg h]
theorem name_any (op : Int) (w : World) (hn : NT w) : Calls Tryd.prog 30 #[.int .i64 op] w fun e w' => e = .returned (.string ⟨(opN op).toArray⟩) ∧ w = w' := by
  by_cases h : 1 ≤ op ∧ op ≤ 82
  · have hc := hn.2 (op.toNat - 1) (by omega)
    rw [show (((op.toNat - 1 : Nat) : Int) + 1) = op by omega] at hc
    obtain ⟨g1, g2⟩ := h
    go_enter Tryd.func30, Tryd.ntmps30
    go_wp2_with (go_at_call 61; refine (is_yes _ _ g1 g2).mono ?_; rintro e w' ⟨rfl, rfl⟩)
    go_ret
    exact ⟨rfl, rfl⟩
  · have HB : Hid (op < 1 ∨ 82 < op) := Lib.hid (by omega)
    have ho := opN_out op h
    clear h
    go_enter Tryd.func30, Tryd.ntmps30
    go_wp2_with (go_at_call 61; refine (is_no _ _ HB.out).mono ?_; rintro e w' ⟨rfl, rfl⟩)
    go_ret
    exact ⟨by rw [ho]; rfl, rfl⟩

def holdZ (s : List UInt8) (a b : Int) : Bool × Bool := if (s == [98, 101, 113]) = true then ((a == b), true) else if (s == [98, 110, 101]) = true then ((a != b), true) else if (s == [98, 108, 116]) = true then (decide (wrap64 a < wrap64 b), true) else if (s == [98, 103, 101]) = true then (decide (wrap64 b ≤ wrap64 a), true) else if (s == [98, 108, 116, 117]) = true then (decide (a < b), true) else if (s == [98, 103, 101, 117]) = true then (decide (b ≤ a), true) else (false, false)
def widthZ (s : List UInt8) : Int × Bool × Bool := if (s == [108, 98]) = true then (1, true, true) else if (s == [108, 104]) = true then (2, true, true) else if (s == [108, 119]) = true then (4, true, true) else if (s == [108, 100]) = true then (8, true, true) else if (s == [108, 98, 117]) = true then (1, false, true) else if (s == [115, 98]) = true then (1, false, true) else if (s == [108, 104, 117]) = true then (2, false, true) else if (s == [115, 104]) = true then (2, false, true) else if (s == [108, 119, 117]) = true then (4, false, true) else if (s == [115, 119]) = true then (4, false, true) else if (s == [115, 100]) = true then (8, false, true) else (0, false, false)
theorem holds_any (op : Int) (a b : Int) (w : World) (hn : NT w) (h0 : 0 ≤ a) (h1 : a < 18446744073709551616) (h2 : 0 ≤ b) (h3 : b < 18446744073709551616) :
    Calls Tryd.prog 14 #[.int .i64 op, .int .u64 a, .int .u64 b] w fun e w' => e = .returned (.tuple #[.bool (holdZ (opN op) a b).1, .bool (holdZ (opN op) a b).2]) ∧ w = w' := by
  have hname := name_any op w hn
  generalize opN op = s at hname ⊢
  clear hn
  have HN := Lib.hid hname
  clear hname
  go_enter Tryd.func14, Tryd.ntmps14
  go_wp2_with fail
  refine HN.out.mono ?_; rintro e w' ⟨rfl, rfl⟩
  clear HN
  go_wp2_with fail
  all_goals exact bodyPost_ret (v := .tuple #[.bool (holdZ s a b).1, .bool (holdZ s a b).2]) (by simp [results, Tryd.results14, go_sem, holdZ, *]) rfl ⟨rfl, rfl⟩
theorem rholds_any (s : List UInt8) (a b : Int) (w : World) (h0 : 0 ≤ a) (h1 : a < 18446744073709551616) (h2 : 0 ≤ b) (h3 : b < 18446744073709551616) :
    Calls Tryd.prog 15 #[.string ⟨s.toArray⟩, .int .u64 a, .int .u64 b] w fun e w' => e = .returned (.tuple #[.bool (holdZ s a b).1, .bool (holdZ s a b).2]) ∧ w = w' := by
  have hle : (!decide (wrap64 a < wrap64 b)) = decide (wrap64 b ≤ wrap64 a) := by rw [Bool.eq_iff_iff, Bool.not_eq_true', decide_eq_false_iff_not, decide_eq_true_iff]; omega
  have HL := Lib.hid hle
  clear hle
  go_enter Tryd.func15, Tryd.ntmps15
  go_wp2_with (go_at_call 26; refine (rbelow_any a b _ h0 h1 h2 h3).mono ?_; rintro e w' ⟨rfl, rfl⟩; generalize hq : decide (wrap64 a < wrap64 b) = q; have HQ := Lib.hid hq; clear hq)
  all_goals (refine bodyPost_ret (v := .tuple #[.bool (holdZ s a b).1, .bool (holdZ s a b).2]) ?_ rfl ⟨rfl, rfl⟩)
  all_goals first
    | (simp [results, Tryd.results15, go_sem, holdZ, *]; done)
    | (simp [results, Tryd.results15, go_sem, holdZ, *]; rw [← HQ.out]; done)
    | (simp [results, Tryd.results15, go_sem, holdZ, *]; rw [← HL.out, HQ.out, Bool.not_not]; done)
theorem width_any (op : Int) (w : World) (hn : NT w) :
    Calls Tryd.prog 16 #[.int .i64 op] w fun e w' => e = .returned (.tuple #[.int .i64 (widthZ (opN op)).1, .bool (widthZ (opN op)).2.1, .bool (widthZ (opN op)).2.2]) ∧ w = w' := by
  have hname := name_any op w hn
  generalize opN op = s at hname ⊢
  clear hn
  have HN := Lib.hid hname
  clear hname
  go_enter Tryd.func16, Tryd.ntmps16
  go_wp2_with fail
  refine HN.out.mono ?_; rintro e w' ⟨rfl, rfl⟩
  clear HN
  go_wp2_with fail
  all_goals (refine bodyPost_ret (v := .tuple #[.int .i64 (widthZ s).1, .bool (widthZ s).2.1, .bool (widthZ s).2.2]) ?_ rfl ⟨rfl, rfl⟩)
  all_goals first
    | (simp [results, Tryd.results16, go_sem, widthZ, *]; done)
    | (exfalso; simp_all; done)
theorem rwidth_any (s : List UInt8) (w : World) :
    Calls Tryd.prog 17 #[.string ⟨s.toArray⟩] w fun e w' => e = .returned (.tuple #[.int .i64 (widthZ s).1, .bool (widthZ s).2.1, .bool (widthZ s).2.2]) ∧ w = w' := by
  go_enter Tryd.func17, Tryd.ntmps17
  go_wp2_with fail
  all_goals (refine bodyPost_ret (v := .tuple #[.int .i64 (widthZ s).1, .bool (widthZ s).2.1, .bool (widthZ s).2.2]) ?_ rfl ⟨rfl, rfl⟩)
  all_goals first
    | (simp [results, Tryd.results17, go_sem, widthZ, *]; done)
    | (exfalso; simp_all; done)
end Go.Proofs.YtoijhhacgafblabDoor
