/- alu.Reckon at an operation whose rule is three functions with contracts. -/
import Derived.Test.YtoijhhacgafblabDoorAluA
import Derived.Test.YtoijhhacgafblabDoorAluB
import Derived.Lib.Hide
import Derived.Laws.EntriesVeiled
import Derived.Laws.NewBlocks
import Derived.Deep.RegionHeld3
namespace Go.Proofs.YtoijhhacgafblabDoor
set_option linter.unusedVariables false
set_option linter.unusedSimpArgs false
open Go.ChangeShapes Go.WideShapes Go.ChangeAt Go.RowKit

theorem boxed {w W' : World} {cs : Array Value} {t : TypeId} (h : Below (w.alloc (.cells cs t)).heap.size (w.alloc (.cells cs t)) W') (j : Nat) : W'.cell? ⟨w.heap.size, j, none⟩ = cs[j]? := by
  rw [h.cell (p := ⟨w.heap.size, j, none⟩) (by rw [size_alloc]; exact Nat.lt_succ_self _)]
  exact cell_of_row _ _ j cs t (0, 0) (heap_alloc_new w _)
theorem boxed3 {w w0 W' : World} {F0 F1 F2 : Value} {t : TypeId} (hw : w.heap.size = w0.heap.size + 1) (h : Below (w.alloc (.cells #[F0, F1, F2] t)).heap.size (w.alloc (.cells #[F0, F1, F2] t)) W') :
    W'.cell? ⟨w0.heap.size + 1, 0, none⟩ = some F0 ∧ W'.cell? ⟨w0.heap.size + 1, 1, none⟩ = some F1 ∧ W'.cell? ⟨w0.heap.size + 1, 2, none⟩ = some F2 := by
  rw [← hw]; exact ⟨boxed h 0, boxed h 1, boxed h 2⟩
theorem quiet_below {B : Nat} {w w' : World} (h : Quiet w w') : Below B w w' := by
  obtain ⟨n, rfl⟩ := h; exact ⟨rfl, rfl, rfl, Nat.le_refl _, fun _ _ => rfl⟩

abbrev Inw (x : Int) : Prop := 0 ≤ x ∧ x < 18446744073709551616
/-- a function of one word, of two words: its contract -/
def Does1 (f : Nat) (F : Int → Int) : Prop := (∀ x, Inw x → Inw (F x)) ∧ ∀ (x : Int) (w : World), Inw x → Calls Tryd.prog f #[.int .u64 x] w fun e w' => e = .returned (.int .u64 (F x)) ∧ Quiet w w'
def Does2 (f : Nat) (F : Int → Int → Int) : Prop := (∀ x y, Inw x → Inw y → Inw (F x y)) ∧ ∀ (x y : Int) (w : World), Inw x → Inw y → Calls Tryd.prog f #[.int .u64 x, .int .u64 y] w fun e w' => e = .returned (.int .u64 (F x y)) ∧ Quiet w w'

theorem reckon_gen (op a b : Int) (w : World) (h1 : 1 ≤ op) (h2 : op ≤ 41) (ha : Inw a) (hb : Inw b) (tk rk gv : Nat) (T G : Int → Int) (R2 : Int → Int → Int) (hT : Does1 tk T) (hR : Does2 rk R2) (hG : Does1 gv G)
    (eT : ∀ args W, (callFunc tk args).run Tryd.prog W = .ok (.enter tk args) W) (eR : ∀ args W, (callFunc rk args).run Tryd.prog W = .ok (.enter rk args) W) (eG : ∀ args W, (callFunc gv args).run Tryd.prog W = .ok (.enter gv args) W)
    (hc0 : rulesC[(op.toNat - 1) * 3]? = some (.func (.func tk) #[] #[])) (hc1 : rulesC[(op.toNat - 1) * 3 + 1]? = some (.func (.func rk) #[] #[])) (hc2 : rulesC[(op.toNat - 1) * 3 + 2]? = some (.func (.func gv) #[] #[])) :
    Calls Tryd.prog 12 #[.int .i64 op, .int .u64 a, .int .u64 b] w fun e w' => e = .returned (.tuple #[.int .u64 (G (R2 (T a) (T b))), .bool true]) ∧ Below w.heap.size w w' := by
  obtain ⟨t1, t2⟩ := hT; obtain ⟨r1, r2⟩ := hR; obtain ⟨g1, g2⟩ := hG
  have HA := Lib.hid ha; have HB := Lib.hid hb; have HT := Lib.hid t2; have HR := Lib.hid r2; have HG := Lib.hid g2
  have Ta := Lib.hid (t1 a ha); have Tb := Lib.hid (t1 b hb); have Rab := Lib.hid (r1 _ _ (t1 a ha) (t1 b hb))
  clear ha hb t1 t2 r1 r2 g1 g2
  go_enter Tryd.func12, Tryd.ntmps12
  go_wp2_with fail
  refine (rules_any _).mono ?_; rintro e w1 ⟨rfl, hb⟩
  have hz : rulesC.size = 123 := by kernel_rfl
  have hst := run_storeCells_new (P := Tryd.prog) w1 46 Tryd.zeroCells46 rulesC (by kernel_rfl) (by kernel_rfl) (by kernel_rfl)
  generalize rulesC = R at *
  have HB0 := Lib.hid hb
  clear hb
  go_wp2_with fail
  have hw := size_alloc w1 (.cells R 46)
  have HW := Lib.hid hw
  have HZ := Lib.hid hz
  have HC := Lib.hid (And.intro hc0 (And.intro hc1 hc2))
  clear hw hz hst hc0 hc1 hc2
  go_region_held3 (fun W => W.cell? ⟨w1.heap.size + 1, 0, none⟩ = some (.func (.func tk) #[] #[]) ∧ W.cell? ⟨w1.heap.size + 1, 1, none⟩ = some (.func (.func rk) #[] #[]) ∧ W.cell? ⟨w1.heap.size + 1, 2, none⟩ = some (.func (.func gv) #[] #[]))
    (first | exact boxed3 HW.out HB4.out | exact boxed3 HW.out HB3.out | exact boxed3 HW.out HB2.out | exact boxed3 HW.out HB1.out | go_keep)
    (first
      | ((with_reducible refine (HT.out a _ HA.out).mono ?_); rintro e w2 ⟨rfl, hq⟩; have HB1 := Lib.hid (bTrans (Below.drew (Below.refl _ _)) (quiet_below hq)); clear hq)
      | ((with_reducible refine (HT.out b _ HB.out).mono ?_); rintro e w3 ⟨rfl, hq⟩; have HB2 := Lib.hid (bTrans HB1.out (quiet_below hq)); clear hq)
      | ((with_reducible refine (HR.out _ _ _ Ta.out Tb.out).mono ?_); rintro e w4 ⟨rfl, hq⟩; have HB3 := Lib.hid (bTrans HB2.out (quiet_below hq)); clear hq)
      | ((with_reducible refine (HG.out _ _ Rab.out).mono ?_); rintro e w5 ⟨rfl, hq⟩; have HB4 := Lib.hid (bTrans HB3.out (quiet_below hq)); clear hq))
  go_wp2_with fail
  exact bodyPost_ret (v := .tuple #[.int .u64 (G (R2 (T a) (T b))), .bool true]) (by simp [results, Tryd.results12, go_sem]) rfl ⟨rfl, bTrans HB0.out (bTrans (bAlloc (bAlloc (Below.refl _ _) _) _) HB4.out)⟩
end Go.Proofs.YtoijhhacgafblabDoor
