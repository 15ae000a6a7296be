/- The walk of CapLess. -/
import Derived.Test.YtoijhhacgafblaaDoorCapMk
import Derived.Test.YtoijhhacgafblaaDoorCapL
namespace Go.Proofs.YtoijhhacgafblaaDoor
set_option linter.unusedVariables false
set_option linter.unusedSimpArgs false
open Go.ChangeShapes Go.WideShapes Go.ChangeAt Go.RowKit

theorem clear_b (cb ct ca cp cy : Int) (cg : Bool) (w : World) :
    Calls Tryd.prog 20 #[.agg #[.int .u64 cb, .int .u64 ct, .int .u64 ca, .int .i64 cp, .int .i64 cy, .bool cg]] w fun e w' => e = .returned (.agg #[.int .u64 cb, .int .u64 ct, .int .u64 ca, .int .i64 cp, .int .i64 cy, .bool false]) ∧ Below w.heap.size w w' :=
  (clear_any cb ct ca cp cy cg w).mono fun e w' ⟨he, hw⟩ => ⟨he, hw ▸ bAlloc (bAlloc (Below.refl _ _) _) _⟩

set_option maxHeartbeats 1600000 in
theorem CapLess_walk (cb ct ca cp cy : Int) (cg : Bool) (x p : Int) (w : World) (htab : Tab w.heap.size w) (h1 : 0 ≤ ca) (h2 : ca < 18446744073709551616) (h3 : 0 ≤ x) (h5 : x < 18446744073709551616) (h4 : ct < 18446744073709551616) (o1 : Bool) (e1 : rightC (⟨cb, ct, ca, cp, cy, cg⟩ : CapV) = o1) :
    Calls Tryd.prog 6 #[.agg #[.int .u64 cb, .int .u64 ct, .int .u64 ca, .int .i64 cp, .int .i64 cy, .bool cg], .int .u64 x, .int .i64 p] w fun e w' => e = .returned (.bool true) ∧ Below w.heap.size w w' := by
  have HT := Lib.hid htab
  clear htab
  have CE := Lib.hid e1
  clear e1
  go_enter Tryd.func6, Tryd.ntmps6
  go_wp2_with fail
  refine (awake_any _ (tab_on HT.out (bAlloc (Below.refl _ _) (.cells #[.int .u64 cb, .int .u64 ct, .int .u64 ca, .int .i64 cp, .int .i64 cy, .bool cg] 24)))).mono ?_; rintro e w1 ⟨rfl, hb⟩
  have C1 := Lib.hid hb
  clear hb
  obtain ⟨c0, c1, c2, c3, c4, c5⟩ := cells6 C1.out
  go_wp2_with fail
  refine (right_any _ _ _ _ _ _ _).mono ?_; rintro e w2 ⟨rfl, hb⟩; rw [CE.out]
  have C2 := Lib.hid (bTrans C1.out hb)
  clear hb c0 c1 c2 c3 c4 c5 C1
  obtain ⟨c0, c1, c2, c3, c4, c5⟩ := cells6 C2.out
  cases o1
  · go_wp2_with fail
    go_ret
    exact ⟨rfl, bTrans (bAlloc (Below.refl _ _) _) C2.out⟩
  by_cases hy : cy = -1
  · subst hy
    have p1 : 0 ≤ cp := rightC_p CE.out
    have p2 : cp ≤ 255 := rightC_q CE.out
    have hp : 0 ≤ IntKind.u64.wrap p := by rw [IntKind.wrap_u64]; omega
    have lessa : withinC ⟨(moveC (⟨cb, ct, ca, cp, -1, cg⟩ : CapV) x).base, (moveC (⟨cb, ct, ca, cp, -1, cg⟩ : CapV) x).top, (moveC (⟨cb, ct, ca, cp, -1, cg⟩ : CapV) x).at_, (moveC (⟨cb, ct, ca, cp, -1, cg⟩ : CapV) x).perms, (moveC (⟨cb, ct, ca, cp, -1, cg⟩ : CapV) x).ty, (moveC (⟨cb, ct, ca, cp, -1, cg⟩ : CapV) x).tag⟩ (⟨cb, ct, ca, cp, -1, cg⟩ : CapV) = true := less_move (⟨cb, ct, ca, cp, -1, cg⟩ : CapV) x p1 p2
    have lessb : withinC ⟨(boundC (⟨cb, ct, ca, cp, -1, cg⟩ : CapV) x).base, (boundC (⟨cb, ct, ca, cp, -1, cg⟩ : CapV) x).top, (boundC (⟨cb, ct, ca, cp, -1, cg⟩ : CapV) x).at_, (boundC (⟨cb, ct, ca, cp, -1, cg⟩ : CapV) x).perms, (boundC (⟨cb, ct, ca, cp, -1, cg⟩ : CapV) x).ty, (boundC (⟨cb, ct, ca, cp, -1, cg⟩ : CapV) x).tag⟩ (⟨cb, ct, ca, cp, -1, cg⟩ : CapV) = true := less_bound (⟨cb, ct, ca, cp, -1, cg⟩ : CapV) (⟨cb, ct, ca, cp, -1, cg⟩ : CapV) x rfl rfl rfl rfl id p1 p2
    have lessd : withinC ⟨(boundC ⟨(moveC (⟨cb, ct, ca, cp, -1, cg⟩ : CapV) x).base, (moveC (⟨cb, ct, ca, cp, -1, cg⟩ : CapV) x).top, (moveC (⟨cb, ct, ca, cp, -1, cg⟩ : CapV) x).at_, (moveC (⟨cb, ct, ca, cp, -1, cg⟩ : CapV) x).perms, (moveC (⟨cb, ct, ca, cp, -1, cg⟩ : CapV) x).ty, (moveC (⟨cb, ct, ca, cp, -1, cg⟩ : CapV) x).tag⟩ (IntKind.u64.wrap p)).base, (boundC ⟨(moveC (⟨cb, ct, ca, cp, -1, cg⟩ : CapV) x).base, (moveC (⟨cb, ct, ca, cp, -1, cg⟩ : CapV) x).top, (moveC (⟨cb, ct, ca, cp, -1, cg⟩ : CapV) x).at_, (moveC (⟨cb, ct, ca, cp, -1, cg⟩ : CapV) x).perms, (moveC (⟨cb, ct, ca, cp, -1, cg⟩ : CapV) x).ty, (moveC (⟨cb, ct, ca, cp, -1, cg⟩ : CapV) x).tag⟩ (IntKind.u64.wrap p)).top, (boundC ⟨(moveC (⟨cb, ct, ca, cp, -1, cg⟩ : CapV) x).base, (moveC (⟨cb, ct, ca, cp, -1, cg⟩ : CapV) x).top, (moveC (⟨cb, ct, ca, cp, -1, cg⟩ : CapV) x).at_, (moveC (⟨cb, ct, ca, cp, -1, cg⟩ : CapV) x).perms, (moveC (⟨cb, ct, ca, cp, -1, cg⟩ : CapV) x).ty, (moveC (⟨cb, ct, ca, cp, -1, cg⟩ : CapV) x).tag⟩ (IntKind.u64.wrap p)).at_, (boundC ⟨(moveC (⟨cb, ct, ca, cp, -1, cg⟩ : CapV) x).base, (moveC (⟨cb, ct, ca, cp, -1, cg⟩ : CapV) x).top, (moveC (⟨cb, ct, ca, cp, -1, cg⟩ : CapV) x).at_, (moveC (⟨cb, ct, ca, cp, -1, cg⟩ : CapV) x).perms, (moveC (⟨cb, ct, ca, cp, -1, cg⟩ : CapV) x).ty, (moveC (⟨cb, ct, ca, cp, -1, cg⟩ : CapV) x).tag⟩ (IntKind.u64.wrap p)).perms, (boundC ⟨(moveC (⟨cb, ct, ca, cp, -1, cg⟩ : CapV) x).base, (moveC (⟨cb, ct, ca, cp, -1, cg⟩ : CapV) x).top, (moveC (⟨cb, ct, ca, cp, -1, cg⟩ : CapV) x).at_, (moveC (⟨cb, ct, ca, cp, -1, cg⟩ : CapV) x).perms, (moveC (⟨cb, ct, ca, cp, -1, cg⟩ : CapV) x).ty, (moveC (⟨cb, ct, ca, cp, -1, cg⟩ : CapV) x).tag⟩ (IntKind.u64.wrap p)).ty, (boundC ⟨(moveC (⟨cb, ct, ca, cp, -1, cg⟩ : CapV) x).base, (moveC (⟨cb, ct, ca, cp, -1, cg⟩ : CapV) x).top, (moveC (⟨cb, ct, ca, cp, -1, cg⟩ : CapV) x).at_, (moveC (⟨cb, ct, ca, cp, -1, cg⟩ : CapV) x).perms, (moveC (⟨cb, ct, ca, cp, -1, cg⟩ : CapV) x).ty, (moveC (⟨cb, ct, ca, cp, -1, cg⟩ : CapV) x).tag⟩ (IntKind.u64.wrap p)).tag⟩ (⟨cb, ct, ca, cp, -1, cg⟩ : CapV) = true := less_bound (moveC (⟨cb, ct, ca, cp, -1, cg⟩ : CapV) x) (⟨cb, ct, ca, cp, -1, cg⟩ : CapV) _ rfl rfl rfl rfl live_tag p1 p2
    have lesse : withinC ⟨(andC (⟨cb, ct, ca, cp, -1, cg⟩ : CapV) p).base, (andC (⟨cb, ct, ca, cp, -1, cg⟩ : CapV) p).top, (andC (⟨cb, ct, ca, cp, -1, cg⟩ : CapV) p).at_, (andC (⟨cb, ct, ca, cp, -1, cg⟩ : CapV) p).perms, (andC (⟨cb, ct, ca, cp, -1, cg⟩ : CapV) p).ty, (andC (⟨cb, ct, ca, cp, -1, cg⟩ : CapV) p).tag⟩ (⟨cb, ct, ca, cp, -1, cg⟩ : CapV) = true := less_and (⟨cb, ct, ca, cp, -1, cg⟩ : CapV) p p1 p2
    have lessf : withinC ⟨cb, ct, ca, cp, -1, false⟩ (⟨cb, ct, ca, cp, -1, cg⟩ : CapV) = true := less_clear (⟨cb, ct, ca, cp, -1, cg⟩ : CapV)
    have lessg : withinC (⟨cb, ct, ca, cp, -1, cg⟩ : CapV) (⟨cb, ct, ca, cp, -1, cg⟩ : CapV) = true := less_self (⟨cb, ct, ca, cp, -1, cg⟩ : CapV) p1 p2
    have q1 : 0 ≤ (moveC (⟨cb, ct, ca, cp, -1, cg⟩ : CapV) x).at_ := h3
    have q2 : (moveC (⟨cb, ct, ca, cp, -1, cg⟩ : CapV) x).at_ < 18446744073709551616 := h5
    have q3 : (moveC (⟨cb, ct, ca, cp, -1, cg⟩ : CapV) x).top < 18446744073709551616 := h4
    go_wp2_with fail
    go_region_held3 (fun W => W.cell? ⟨w.heap.size, 0, none⟩ = some (.int .u64 cb) ∧ W.cell? ⟨w.heap.size, 1, none⟩ = some (.int .u64 ct) ∧ W.cell? ⟨w.heap.size, 2, none⟩ = some (.int .u64 ca) ∧ W.cell? ⟨w.heap.size, 3, none⟩ = some (.int .i64 cp) ∧ W.cell? ⟨w.heap.size, 4, none⟩ = some (.int .i64 (-1)) ∧ W.cell? ⟨w.heap.size, 5, none⟩ = some (.bool cg))
      (first | exact cells6 (bTrans C2.out HB4.out) | exact cells6 (bTrans C2.out HB3.out) | go_keep)
      (first
        | (go_at_call 17; (with_reducible refine (move_any _ _ _ _ _ _ x _).mono ?_); rintro e w3 ⟨rfl, hb⟩; have HB3 := Lib.hid (undrew hb); clear hb)
        | (go_at_call 30; (with_reducible refine (within_any _ _ _ _ _ _ _ _ _ _ _ _ _).mono ?_); rintro e w4 ⟨rfl, hb⟩; rw [lessa]; have HB4 := Lib.hid (bTrans HB3.out hb); clear hb))
    have C4 := Lib.hid (bTrans C2.out HB4.out)
    clear HB3 HB4 c0 c1 c2 c3 c4 c5
    obtain ⟨c0, c1, c2, c3, c4, c5⟩ := cells6 C4.out
    go_wp2_with fail
    go_region_held3 (fun W => W.cell? ⟨w.heap.size, 0, none⟩ = some (.int .u64 cb) ∧ W.cell? ⟨w.heap.size, 1, none⟩ = some (.int .u64 ct) ∧ W.cell? ⟨w.heap.size, 2, none⟩ = some (.int .u64 ca) ∧ W.cell? ⟨w.heap.size, 3, none⟩ = some (.int .i64 cp) ∧ W.cell? ⟨w.heap.size, 4, none⟩ = some (.int .i64 (-1)) ∧ W.cell? ⟨w.heap.size, 5, none⟩ = some (.bool cg))
      (first | exact cells6 (bTrans C4.out HB6.out) | exact cells6 (bTrans C4.out HB5.out) | go_keep)
      (first
        | (go_at_call 18; (with_reducible refine (bound_any _ _ _ _ _ _ x _ h1 h2 h3 h4).mono ?_); rintro e w5 ⟨rfl, hb⟩; have HB5 := Lib.hid (undrew hb); clear hb)
        | (go_at_call 30; (with_reducible refine (within_any _ _ _ _ _ _ _ _ _ _ _ _ _).mono ?_); rintro e w6 ⟨rfl, hb⟩; rw [lessb]; have HB6 := Lib.hid (bTrans HB5.out hb); clear hb))
    have C6 := Lib.hid (bTrans C4.out HB6.out)
    clear HB5 HB6 c0 c1 c2 c3 c4 c5
    obtain ⟨c0, c1, c2, c3, c4, c5⟩ := cells6 C6.out
    go_wp2_with fail
    go_region_held3 (fun W => W.cell? ⟨w.heap.size, 0, none⟩ = some (.int .u64 cb) ∧ W.cell? ⟨w.heap.size, 1, none⟩ = some (.int .u64 ct) ∧ W.cell? ⟨w.heap.size, 2, none⟩ = some (.int .u64 ca) ∧ W.cell? ⟨w.heap.size, 3, none⟩ = some (.int .i64 cp) ∧ W.cell? ⟨w.heap.size, 4, none⟩ = some (.int .i64 (-1)) ∧ W.cell? ⟨w.heap.size, 5, none⟩ = some (.bool cg))
      (first | exact cells6 (bTrans C6.out HB9.out) | exact cells6 (bTrans C6.out HB8.out) | exact cells6 (bTrans C6.out HB7.out) | go_keep)
      (first
        | (go_at_call 17; (with_reducible refine (move_any _ _ _ _ _ _ x _).mono ?_); rintro e w7 ⟨rfl, hb⟩; have HB7 := Lib.hid (undrew hb); clear hb)
        | (go_at_call 18; (with_reducible refine (bound_any _ _ _ _ _ _ (IntKind.u64.wrap p) _ q1 q2 hp q3).mono ?_); rintro e w8 ⟨rfl, hb⟩; have HB8 := Lib.hid (bTrans HB7.out hb); clear hb)
        | (go_at_call 30; (with_reducible refine (within_any _ _ _ _ _ _ _ _ _ _ _ _ _).mono ?_); rintro e w9 ⟨rfl, hb⟩; rw [lessd]; have HB9 := Lib.hid (bTrans HB8.out hb); clear hb))
    have C9 := Lib.hid (bTrans C6.out HB9.out)
    clear HB7 HB8 HB9 c0 c1 c2 c3 c4 c5
    obtain ⟨c0, c1, c2, c3, c4, c5⟩ := cells6 C9.out
    go_wp2_with fail
    go_region_held3 (fun W => W.cell? ⟨w.heap.size, 0, none⟩ = some (.int .u64 cb) ∧ W.cell? ⟨w.heap.size, 1, none⟩ = some (.int .u64 ct) ∧ W.cell? ⟨w.heap.size, 2, none⟩ = some (.int .u64 ca) ∧ W.cell? ⟨w.heap.size, 3, none⟩ = some (.int .i64 cp) ∧ W.cell? ⟨w.heap.size, 4, none⟩ = some (.int .i64 (-1)) ∧ W.cell? ⟨w.heap.size, 5, none⟩ = some (.bool cg))
      (first | exact cells6 (bTrans C9.out HB11.out) | exact cells6 (bTrans C9.out HB10.out) | go_keep)
      (first
        | (go_at_call 19; (with_reducible refine (and_any _ _ _ _ _ _ p _).mono ?_); rintro e w10 ⟨rfl, hb⟩; have HB10 := Lib.hid (undrew hb); clear hb)
        | (go_at_call 30; (with_reducible refine (within_any _ _ _ _ _ _ _ _ _ _ _ _ _).mono ?_); rintro e w11 ⟨rfl, hb⟩; rw [lesse]; have HB11 := Lib.hid (bTrans HB10.out hb); clear hb))
    have C11 := Lib.hid (bTrans C9.out HB11.out)
    clear HB10 HB11 c0 c1 c2 c3 c4 c5
    obtain ⟨c0, c1, c2, c3, c4, c5⟩ := cells6 C11.out
    go_wp2_with fail
    go_region_held3 (fun W => W.cell? ⟨w.heap.size, 0, none⟩ = some (.int .u64 cb) ∧ W.cell? ⟨w.heap.size, 1, none⟩ = some (.int .u64 ct) ∧ W.cell? ⟨w.heap.size, 2, none⟩ = some (.int .u64 ca) ∧ W.cell? ⟨w.heap.size, 3, none⟩ = some (.int .i64 cp) ∧ W.cell? ⟨w.heap.size, 4, none⟩ = some (.int .i64 (-1)) ∧ W.cell? ⟨w.heap.size, 5, none⟩ = some (.bool cg))
      (first | exact cells6 (bTrans C11.out HB13.out) | exact cells6 (bTrans C11.out HB12.out) | go_keep)
      (first
        | (go_at_call 20; (with_reducible refine (clear_b _ _ _ _ _ _ _).mono ?_); rintro e w12 ⟨rfl, hb⟩; have HB12 := Lib.hid (undrew hb); clear hb)
        | (go_at_call 30; (with_reducible refine (within_any _ _ _ _ _ _ _ _ _ _ _ _ _).mono ?_); rintro e w13 ⟨rfl, hb⟩; rw [lessf]; have HB13 := Lib.hid (bTrans HB12.out hb); clear hb))
    have C13 := Lib.hid (bTrans C11.out HB13.out)
    clear HB12 HB13 c0 c1 c2 c3 c4 c5
    obtain ⟨c0, c1, c2, c3, c4, c5⟩ := cells6 C13.out
    go_wp2_with fail
    refine (within_any _ _ _ _ _ _ _ _ _ _ _ _ _).mono ?_; rintro e w14 ⟨rfl, hb⟩; rw [lessg]
    have C14 := Lib.hid (bTrans C13.out hb)
    clear hb
    go_wp2_with fail
    go_ret
    exact ⟨rfl, bTrans (bAlloc (Below.refl _ _) _) C14.out⟩
  · have hy2 : (cy == -1) = false := beq_false_of_ne hy
    have hy3 : decide (cy = -1) = false := decide_eq_false hy
    go_wp2_with fail
    go_ret
    exact ⟨rfl, bTrans (bAlloc (Below.refl _ _) _) C2.out⟩
end Go.Proofs.YtoijhhacgafblaaDoor
