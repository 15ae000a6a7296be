/- Reckon, and the document's own, where there is no such operation. -/
import Derived.Test.YtoijhhacgafblabDoorAluK
import Derived.Test.YtoijhhacgafblabDoorAluC
import Derived.Test.YtoijhhacgafblabDoorAluP
namespace Go.Proofs.YtoijhhacgafblabDoor
set_option linter.unusedVariables false
set_option linter.unusedSimpArgs false
open Go.Joins Go.ChangeShapes Go.WideShapes Go.ChangeAt Go.RowKit

theorem reckon_out (op a b : Int) (w : World) (h : op < 1 ∨ 41 < op) :
    Calls Tryd.prog 12 #[.int .i64 op, .int .u64 a, .int .u64 b] w fun e w' => e = .returned (.tuple #[.int .u64 0, .bool false]) ∧ Below w.heap.size w w' := by
  have H := Lib.hid h
  clear h
  go_enter Tryd.func12, Tryd.ntmps12
  go_wp2_with fail
  refine (rules_any _).mono ?_; rintro e w1 ⟨rfl, hb⟩
  have hz : rulesC.size = 123 := by kernel_rfl
  have hst := run_storeCells_new (P := Tryd.prog) w1 46 Tryd.zeroCells46 rulesC (by kernel_rfl) (by kernel_rfl) (by kernel_rfl)
  generalize rulesC = R at *
  have HB0 := Lib.hid (bAlloc hb (.cells R 46))
  clear hb
  rcases H.out with h | h
  · have d1 : decide (op < 1) = true := decide_eq_true h
    clear h
    go_wp2_with fail
    exact bodyPost_ret (v := .tuple #[.int .u64 0, .bool false]) (by simp [results, Tryd.results12, go_sem]) rfl ⟨rfl, HB0.out⟩
  · have d1 : decide (op < 1) = false := decide_eq_false (by omega)
    have d2 : decide (41 < op) = true := decide_eq_true h
    clear h
    go_wp2_with fail
    exact bodyPost_ret (v := .tuple #[.int .u64 0, .bool false]) (by simp [results, Tryd.results12, go_sem]) rfl ⟨rfl, HB0.out⟩

/-- a name that is none of the forty-one -/
def noName (s : List UInt8) : Prop := ∀ j : Fin 83, 1 ≤ j.val → j.val ≤ 41 → (s == opN j.val) = false
theorem rs_out (s : List UInt8) (x y : Nat) (w : World) (hs : noName s) (hx : x < 18446744073709551616) (hy : y < 18446744073709551616) :
    Calls Tryd.prog 60 #[.string ⟨s.toArray⟩, .int .u64 x, .int .u64 y] w fun e w' => e = .returned (.tuple #[.int .u64 0, .bool false]) ∧ Below w.heap.size w w' := by
  have f19 : (s == [97, 100, 100, 119]) = false := hs ⟨19, by decide⟩ (by decide) (by decide)
  have f20 : (s == [115, 117, 98, 119]) = false := hs ⟨20, by decide⟩ (by decide) (by decide)
  have f21 : (s == [115, 108, 108, 119]) = false := hs ⟨21, by decide⟩ (by decide) (by decide)
  have f22 : (s == [115, 114, 108, 119]) = false := hs ⟨22, by decide⟩ (by decide) (by decide)
  have f23 : (s == [115, 114, 97, 119]) = false := hs ⟨23, by decide⟩ (by decide) (by decide)
  have f24 : (s == [109, 117, 108, 119]) = false := hs ⟨24, by decide⟩ (by decide) (by decide)
  have f25 : (s == [100, 105, 118, 119]) = false := hs ⟨25, by decide⟩ (by decide) (by decide)
  have f26 : (s == [100, 105, 118, 117, 119]) = false := hs ⟨26, by decide⟩ (by decide) (by decide)
  have f27 : (s == [114, 101, 109, 119]) = false := hs ⟨27, by decide⟩ (by decide) (by decide)
  have f28 : (s == [114, 101, 109, 117, 119]) = false := hs ⟨28, by decide⟩ (by decide) (by decide)
  have f38 : (s == [97, 100, 100, 105, 119]) = false := hs ⟨38, by decide⟩ (by decide) (by decide)
  have f39 : (s == [115, 108, 108, 105, 119]) = false := hs ⟨39, by decide⟩ (by decide) (by decide)
  have f40 : (s == [115, 114, 108, 105, 119]) = false := hs ⟨40, by decide⟩ (by decide) (by decide)
  have f41 : (s == [115, 114, 97, 105, 119]) = false := hs ⟨41, by decide⟩ (by decide) (by decide)
  clear hs
  go_enter Tryd.func60, Tryd.ntmps60
  go_wp2_with (go_at_call 19; refine (rsign_any _ 32 _ (by omega) (by omega)).mono ?_; rintro e w' ⟨rfl, rfl⟩)
  exact bodyPost_ret (v := .tuple #[.int .u64 0, .bool false]) (by simp [results, Tryd.results60, go_sem]) rfl ⟨rfl, Below.refl _ _⟩
theorem rm_out (s : List UInt8) (x y : Nat) (w : World) (hs : noName s) (hx : x < 18446744073709551616) (hy : y < 18446744073709551616) :
    Calls Tryd.prog 29 #[.string ⟨s.toArray⟩, .int .u64 x, .int .u64 y] w fun e w' => e = .returned (.tuple #[.int .u64 0, .bool false]) ∧ Below w.heap.size w w' := by
  have HC := Lib.hid (rs_out s x y w hs hx hy)
  have f11 : (s == [109, 117, 108]) = false := hs ⟨11, by decide⟩ (by decide) (by decide)
  have f12 : (s == [109, 117, 108, 104]) = false := hs ⟨12, by decide⟩ (by decide) (by decide)
  have f13 : (s == [109, 117, 108, 104, 115, 117]) = false := hs ⟨13, by decide⟩ (by decide) (by decide)
  have f14 : (s == [109, 117, 108, 104, 117]) = false := hs ⟨14, by decide⟩ (by decide) (by decide)
  have f15 : (s == [100, 105, 118]) = false := hs ⟨15, by decide⟩ (by decide) (by decide)
  have f16 : (s == [100, 105, 118, 117]) = false := hs ⟨16, by decide⟩ (by decide) (by decide)
  have f17 : (s == [114, 101, 109]) = false := hs ⟨17, by decide⟩ (by decide) (by decide)
  have f18 : (s == [114, 101, 109, 117]) = false := hs ⟨18, by decide⟩ (by decide) (by decide)
  clear hs
  go_enter Tryd.func29, Tryd.ntmps29
  go_wp2_with fail
  refine HC.out.mono ?_; rintro e w' ⟨rfl, hb⟩
  have HB := Lib.hid hb
  clear hb
  go_wp2_with fail
  exact bodyPost_ret (v := .tuple #[.int .u64 0, .bool false]) (by simp [results, Tryd.results29, go_sem]) rfl ⟨rfl, HB.out⟩
theorem rk_out (s : List UInt8) (x y : Nat) (w : World) (hs : noName s) (hx : x < 18446744073709551616) (hy : y < 18446744073709551616) :
    Calls Tryd.prog 13 #[.string ⟨s.toArray⟩, .int .u64 x, .int .u64 y] w fun e w' => e = .returned (.tuple #[.int .u64 0, .bool false]) ∧ Below w.heap.size w w' := by
  have HC := Lib.hid (rm_out s x y w hs hx hy)
  have f1 : (s == [97, 100, 100]) = false := hs ⟨1, by decide⟩ (by decide) (by decide)
  have f2 : (s == [115, 117, 98]) = false := hs ⟨2, by decide⟩ (by decide) (by decide)
  have f3 : (s == [115, 108, 108]) = false := hs ⟨3, by decide⟩ (by decide) (by decide)
  have f4 : (s == [115, 108, 116]) = false := hs ⟨4, by decide⟩ (by decide) (by decide)
  have f5 : (s == [115, 108, 116, 117]) = false := hs ⟨5, by decide⟩ (by decide) (by decide)
  have f6 : (s == [120, 111, 114]) = false := hs ⟨6, by decide⟩ (by decide) (by decide)
  have f7 : (s == [115, 114, 108]) = false := hs ⟨7, by decide⟩ (by decide) (by decide)
  have f8 : (s == [115, 114, 97]) = false := hs ⟨8, by decide⟩ (by decide) (by decide)
  have f9 : (s == [111, 114]) = false := hs ⟨9, by decide⟩ (by decide) (by decide)
  have f10 : (s == [97, 110, 100]) = false := hs ⟨10, by decide⟩ (by decide) (by decide)
  have f29 : (s == [97, 100, 100, 105]) = false := hs ⟨29, by decide⟩ (by decide) (by decide)
  have f30 : (s == [115, 108, 116, 105]) = false := hs ⟨30, by decide⟩ (by decide) (by decide)
  have f31 : (s == [115, 108, 116, 105, 117]) = false := hs ⟨31, by decide⟩ (by decide) (by decide)
  have f32 : (s == [120, 111, 114, 105]) = false := hs ⟨32, by decide⟩ (by decide) (by decide)
  have f33 : (s == [111, 114, 105]) = false := hs ⟨33, by decide⟩ (by decide) (by decide)
  have f34 : (s == [97, 110, 100, 105]) = false := hs ⟨34, by decide⟩ (by decide) (by decide)
  have f35 : (s == [115, 108, 108, 105]) = false := hs ⟨35, by decide⟩ (by decide) (by decide)
  have f36 : (s == [115, 114, 108, 105]) = false := hs ⟨36, by decide⟩ (by decide) (by decide)
  have f37 : (s == [115, 114, 97, 105]) = false := hs ⟨37, by decide⟩ (by decide) (by decide)
  clear hs
  go_enter Tryd.func13, Tryd.ntmps13
  go_wp2_with fail
  refine HC.out.mono ?_; rintro e w' ⟨rfl, hb⟩
  have HB := Lib.hid hb
  clear hb
  go_wp2_with fail
  exact bodyPost_ret (v := .tuple #[.int .u64 0, .bool false]) (by simp [results, Tryd.results13, go_sem]) rfl ⟨rfl, HB.out⟩
theorem no_name (op : Int) (h : op < 1 ∨ 41 < op) : noName (opN op) := by
  intro j h1 h2
  by_cases hk : 1 ≤ op ∧ op ≤ 82
  · have := opN_ne j ⟨op.toNat, by omega⟩ h1 (show j.val < op.toNat by omega)
    simp only at this
    rw [show ((op.toNat : Nat) : Int) = op by omega] at this
    rw [beq_eq_false_iff_ne] at this ⊢
    exact fun e => this e.symm
  · rw [opN_out op hk]
    have : ∀ j : Fin 83, 1 ≤ j.val → j.val ≤ 41 → (([] : List UInt8) == opN j.val) = false := by decide +kernel
    exact this j h1 h2
end Go.Proofs.YtoijhhacgafblabDoor
