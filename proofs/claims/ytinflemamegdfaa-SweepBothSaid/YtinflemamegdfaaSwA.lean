/- sweep.Touches, its closure, and the document's Touches: contracts. -/
import Derived.Test.YtinflemamegdfaaMcB
import Derived.Laws.BitsAllLaws
import Derived.Laws.NewBlocks
import Derived.WalkKit
import Derived.LoopTactic
import Derived.Lib.Hide
import Derived.Outline
import Derived.Deep.RegionHeld3
import Derived.Laws.EntriesVeiled
namespace Go.Proofs.Ytinflemamegdfaa
set_option linter.unusedVariables false
set_option linter.unusedSimpArgs false
open Go.Joins Go.ChangeShapes Go.WideShapes Go.ChangeAt Go.RowKit

theorem boxed {w W' : World} {cs : Array Value} {t : TypeId} (h : Below (w.alloc (.cells cs t)).heap.size (w.alloc (.cells cs t)) W') (j : Nat) : W'.cell? ⟨w.heap.size, j, none⟩ = cs[j]? := by
  rw [h.cell (p := ⟨w.heap.size, j, none⟩) (by rw [size_alloc]; exact Nat.lt_succ_self _)]
  exact cell_of_row _ _ j cs t (0, 0) (heap_alloc_new w _)
/-- what the closure answers -/
def progB (cb ct cy : Int) (cg : Bool) (f n ty la : Int) : Bool :=
  if cg = false then false else if 0 ≤ ty ∧ cy = ty then true else if n = 0 then false else if ct ≤ cb then decide (f ≤ cb ∧ cb ≤ la) else decide (cb ≤ la ∧ f < ct)
theorem closure_any (cb ct ca cp cy : Int) (cg : Bool) (bT bN bF bL : Nat) (f n ty la : Int) (w : World)
    (hT : w.cell? ⟨bT, 0, none⟩ = some (.int .i64 ty)) (hN : w.cell? ⟨bN, 0, none⟩ = some (.int .u64 n)) (hF : w.cell? ⟨bF, 0, none⟩ = some (.int .u64 f)) (hL : w.cell? ⟨bL, 0, none⟩ = some (.int .u64 la)) :
    Calls Try.prog 49 #[.agg #[.int .u64 cb, .int .u64 ct, .int .u64 ca, .int .i64 cp, .int .i64 cy, .bool cg], .pointer (some ⟨bT, 0, none⟩), .pointer (some ⟨bN, 0, none⟩), .pointer (some ⟨bF, 0, none⟩), .pointer (some ⟨bL, 0, none⟩)] w fun e w' => e = .returned (.bool (progB cb ct cy cg f n ty la)) ∧ Below w.heap.size w w' := by
  have zT := heap_lt_of_cell hT
  have zN := heap_lt_of_cell hN
  have zF := heap_lt_of_cell hF
  have zL := heap_lt_of_cell hL
  simp only [] at zT zN zF zL
  cases cg
  · go_enter Try.func49, Try.ntmps49
    go_wp2_with fail
    go_ret
    exact ⟨rfl, bAlloc (Below.refl _ _) _⟩
  · go_enter Try.func49, Try.ntmps49
    go_wp2_with fail
    all_goals
      go_ret
      refine ⟨ret_bool ?_, bAlloc (Below.refl _ _) _⟩
      clear hT hN hF hL zT zN zF zL
      unfold progB
      simp only [Bool.true_eq_false, if_false]
      repeat' split
      all_goals first
        | rfl
        | (simp_all; done)
        | (simp_all; omega)
        | (exfalso; simp_all; omega)
/-- where the bytes end, as the program reckons it -/
def lastZ (f n : Int) : Int := if 0 < n ∧ IntKind.u64.wrap (f + IntKind.u64.wrap (n - 1)) < f then 18446744073709551615 else IntKind.u64.wrap (f + IntKind.u64.wrap (n - 1))
theorem four_cells (w : World) (A B C D : Value) (t1 t2 t3 t4 : TypeId) : (((((w.alloc (.cells #[A] t1)).alloc (.cells #[B] t2)).alloc (.cells #[C] t3)).alloc (.cells #[D] t4)).cell? ⟨w.heap.size + 2, 0, none⟩ = some C ∧
    ((((w.alloc (.cells #[A] t1)).alloc (.cells #[B] t2)).alloc (.cells #[C] t3)).alloc (.cells #[D] t4)).cell? ⟨w.heap.size + 1, 0, none⟩ = some B ∧
    ((((w.alloc (.cells #[A] t1)).alloc (.cells #[B] t2)).alloc (.cells #[C] t3)).alloc (.cells #[D] t4)).cell? ⟨w.heap.size, 0, none⟩ = some A ∧
    ((((w.alloc (.cells #[A] t1)).alloc (.cells #[B] t2)).alloc (.cells #[C] t3)).alloc (.cells #[D] t4)).cell? ⟨w.heap.size + 3, 0, none⟩ = some D) ∧
    Below w.heap.size w ((((w.alloc (.cells #[A] t1)).alloc (.cells #[B] t2)).alloc (.cells #[C] t3)).alloc (.cells #[D] t4)) := by
  have s1 := size_alloc w (.cells #[A] t1)
  have s2 := size_alloc (w.alloc (.cells #[A] t1)) (.cells #[B] t2)
  have s3 := size_alloc ((w.alloc (.cells #[A] t1)).alloc (.cells #[B] t2)) (.cells #[C] t3)
  rw [s1] at s2
  rw [s2] at s3
  have k0 := boxed (w := w) (cs := #[A]) (t := t1) (bAlloc (bAlloc (bAlloc (Below.refl _ _) (.cells #[B] t2)) (.cells #[C] t3)) (.cells #[D] t4)) 0
  have k1 := boxed (w := w.alloc (.cells #[A] t1)) (cs := #[B]) (t := t2) (bAlloc (bAlloc (Below.refl _ _) (.cells #[C] t3)) (.cells #[D] t4)) 0
  have k2 := boxed (w := (w.alloc (.cells #[A] t1)).alloc (.cells #[B] t2)) (cs := #[C]) (t := t3) (bAlloc (Below.refl _ _) (.cells #[D] t4)) 0
  have k3 := boxed (w := ((w.alloc (.cells #[A] t1)).alloc (.cells #[B] t2)).alloc (.cells #[C] t3)) (cs := #[D]) (t := t4) (Below.refl _ _) 0
  rw [s1] at k1
  rw [s2] at k2
  rw [s3] at k3
  exact ⟨⟨k2, k1, k0, k3⟩, bAlloc (bAlloc (bAlloc (bAlloc (Below.refl _ _) _) _) _) _⟩
theorem touching_any (f n ty : Int) (w : World) :
    Calls Try.prog 25 #[.int .u64 f, .int .u64 n, .int .i64 ty] w fun e w' => e = .returned (.func (.func 49) #[] #[.pointer (some ⟨w.heap.size + 2, 0, none⟩), .pointer (some ⟨w.heap.size + 1, 0, none⟩), .pointer (some ⟨w.heap.size, 0, none⟩), .pointer (some ⟨w.heap.size + 3, 0, none⟩)]) ∧
      w'.cell? ⟨w.heap.size + 2, 0, none⟩ = some (.int .i64 ty) ∧ w'.cell? ⟨w.heap.size + 1, 0, none⟩ = some (.int .u64 n) ∧ w'.cell? ⟨w.heap.size, 0, none⟩ = some (.int .u64 f) ∧ w'.cell? ⟨w.heap.size + 3, 0, none⟩ = some (.int .u64 (lastZ f n)) ∧ Below w.heap.size w w' := by
  go_enter Try.func25, Try.ntmps25
  go_wp2_with fail
  · have e : lastZ f n = 18446744073709551615 := if_pos ⟨by assumption, by assumption⟩
    go_ret
    rw [e]
    have := four_cells w (.int .u64 f) (.int .u64 n) (.int .i64 ty) (.int .u64 18446744073709551615) 22 22 3 22
    exact ⟨rfl, this.1.1, this.1.2.1, this.1.2.2.1, this.1.2.2.2, this.2⟩
  · have hh : f ≤ IntKind.u64.wrap (f + IntKind.u64.wrap (n - 1)) := by assumption
    have e : lastZ f n = IntKind.u64.wrap (f + IntKind.u64.wrap (n - 1)) := if_neg (fun h => by omega)
    go_ret
    rw [e]
    have := four_cells w (.int .u64 f) (.int .u64 n) (.int .i64 ty) (.int .u64 (IntKind.u64.wrap (f + IntKind.u64.wrap (n - 1)))) 22 22 3 22
    exact ⟨rfl, this.1.1, this.1.2.1, this.1.2.2.1, this.1.2.2.2, this.2⟩
  · have hh : n ≤ 0 := by assumption
    have e : lastZ f n = IntKind.u64.wrap (f + IntKind.u64.wrap (n - 1)) := if_neg (fun h => by omega)
    go_ret
    rw [e]
    have := four_cells w (.int .u64 f) (.int .u64 n) (.int .i64 ty) (.int .u64 (IntKind.u64.wrap (f + IntKind.u64.wrap (n - 1)))) 22 22 3 22
    exact ⟨rfl, this.1.1, this.1.2.1, this.1.2.2.1, this.1.2.2.2, this.2⟩
theorem size_ad (w : World) (o : Obj) : (w.alloc o).drew.heap.size = w.heap.size + 1 := size_alloc w o
theorem touching_at (f n ty : Int) (w : World) (H : Nat) (hH : w.heap.size = H) :
    Calls Try.prog 25 #[.int .u64 f, .int .u64 n, .int .i64 ty] w fun e w' => e = .returned (.func (.func 49) #[] #[.pointer (some ⟨H + 2, 0, none⟩), .pointer (some ⟨H + 1, 0, none⟩), .pointer (some ⟨H, 0, none⟩), .pointer (some ⟨H + 3, 0, none⟩)]) ∧
      w'.cell? ⟨H + 2, 0, none⟩ = some (.int .i64 ty) ∧ w'.cell? ⟨H + 1, 0, none⟩ = some (.int .u64 n) ∧ w'.cell? ⟨H, 0, none⟩ = some (.int .u64 f) ∧ w'.cell? ⟨H + 3, 0, none⟩ = some (.int .u64 (lastZ f n)) ∧ Below w.heap.size w w' := by
  subst hH
  exact touching_any f n ty w
/-- whether a capability reaches bytes, or is of a type -/
def touchB (cb ct cy : Int) (cg : Bool) (f n ty : Int) : Bool := progB cb ct cy cg f n ty (lastZ f n)
theorem touches_any (cb ct ca cp cy : Int) (cg : Bool) (f n ty : Int) (w : World) :
    Calls Try.prog 9 #[.agg #[.int .u64 cb, .int .u64 ct, .int .u64 ca, .int .i64 cp, .int .i64 cy, .bool cg], .int .u64 f, .int .u64 n, .int .i64 ty] w fun e w' => e = .returned (.bool (touchB cb ct cy cg f n ty)) ∧ Below w.heap.size w w' := by
  unfold touchB
  generalize hla : lastZ f n = la
  have HTC := Lib.hid (fun w H hH => touching_at f n ty w H hH)
  rw [hla] at HTC
  clear hla
  have hbx := boxed (w := w) (cs := #[.int .u64 cb, .int .u64 ct, .int .u64 ca, .int .i64 cp, .int .i64 cy, .bool cg]) (t := 24) (Below.refl _ _)
  have hk0 : (w.alloc (.cells #[.int .u64 cb, .int .u64 ct, .int .u64 ca, .int .i64 cp, .int .i64 cy, .bool cg] 24)).cell? ⟨w.heap.size, 0, none⟩ = some (.int .u64 cb) ∧ (w.alloc (.cells #[.int .u64 cb, .int .u64 ct, .int .u64 ca, .int .i64 cp, .int .i64 cy, .bool cg] 24)).cell? ⟨w.heap.size, 1, none⟩ = some (.int .u64 ct) ∧ (w.alloc (.cells #[.int .u64 cb, .int .u64 ct, .int .u64 ca, .int .i64 cp, .int .i64 cy, .bool cg] 24)).cell? ⟨w.heap.size, 2, none⟩ = some (.int .u64 ca) ∧ (w.alloc (.cells #[.int .u64 cb, .int .u64 ct, .int .u64 ca, .int .i64 cp, .int .i64 cy, .bool cg] 24)).cell? ⟨w.heap.size, 3, none⟩ = some (.int .i64 cp) ∧ (w.alloc (.cells #[.int .u64 cb, .int .u64 ct, .int .u64 ca, .int .i64 cp, .int .i64 cy, .bool cg] 24)).cell? ⟨w.heap.size, 4, none⟩ = some (.int .i64 cy) ∧ (w.alloc (.cells #[.int .u64 cb, .int .u64 ct, .int .u64 ca, .int .i64 cp, .int .i64 cy, .bool cg] 24)).cell? ⟨w.heap.size, 5, none⟩ = some (.bool cg) :=
    ⟨(hbx 0).trans rfl, (hbx 1).trans rfl, (hbx 2).trans rfl, (hbx 3).trans rfl, (hbx 4).trans rfl, (hbx 5).trans rfl⟩
  have K0 := Lib.hid hk0
  obtain ⟨b0, b1, b2, b3, b4, b5⟩ := hk0
  clear hbx
  go_enter Try.func9, Try.ntmps9
  go_wp2_with fail
  go_region_held3 (fun W => W.cell? ⟨w.heap.size, 0, none⟩ = some (.int .u64 cb) ∧ W.cell? ⟨w.heap.size, 1, none⟩ = some (.int .u64 ct) ∧ W.cell? ⟨w.heap.size, 2, none⟩ = some (.int .u64 ca) ∧ W.cell? ⟨w.heap.size, 3, none⟩ = some (.int .i64 cp) ∧ W.cell? ⟨w.heap.size, 4, none⟩ = some (.int .i64 cy) ∧ W.cell? ⟨w.heap.size, 5, none⟩ = some (.bool cg))
    (first | exact K0.out | exact HK1.out | exact HK2.out | go_keep)
    (first
      | (go_at_call 25; (with_reducible refine (HTC.out _ (w.heap.size + 1) (size_ad w _)).mono ?_); rintro e w1 ⟨rfl, hT, hN, hF, hLa, hb⟩; have HB1 := Lib.hid (bTrans (Below.drew (Below.refl _ _)) hb); have k := boxed HB1.out; have HK1 := Lib.hid (And.intro ((k 0).trans rfl) (And.intro ((k 1).trans rfl) (And.intro ((k 2).trans rfl) (And.intro ((k 3).trans rfl) (And.intro ((k 4).trans rfl) ((k 5).trans rfl)))))); have HCL := Lib.hid (And.intro hT (And.intro hN (And.intro hF hLa))); clear hb k hT hN hF hLa)
      | ((with_reducible refine (closure_any cb ct ca cp cy cg _ _ _ _ f n ty la _ HCL.out.1 HCL.out.2.1 HCL.out.2.2.1 HCL.out.2.2.2).mono ?_); rintro e w2 ⟨rfl, hb⟩; have HB2 := Lib.hid (bTrans HB1.out hb); have k := boxed HB2.out; have HK2 := Lib.hid (And.intro ((k 0).trans rfl) (And.intro ((k 1).trans rfl) (And.intro ((k 2).trans rfl) (And.intro ((k 3).trans rfl) (And.intro ((k 4).trans rfl) ((k 5).trans rfl)))))); clear hb k))
  go_wp2_with fail
  go_ret
  exact ⟨rfl, bTrans (bAlloc (Below.refl _ _) _) HB2.out⟩
/-! The document's answer. -/
def amongB (x f n : Int) : Bool := decide (f ≤ x ∧ x - f < n)
theorem among_any (x f n : Int) (w : World) (hx : 0 ≤ x) (hx1 : x < 18446744073709551616) (hf : 0 ≤ f) :
    Calls Try.prog 26 #[.int .u64 x, .int .u64 f, .int .u64 n] w fun e w' => e = .returned (.bool (amongB x f n)) ∧ w = w' := by
  by_cases h : f ≤ x
  · have hs : IntKind.u64.wrap (x - f) = x - f := by rw [IntKind.wrap_u64]; omega
    have e : amongB x f n = decide (x - f < n) := by unfold amongB; simp [h]
    have d : decide (f ≤ x) = true := decide_eq_true h
    have E := Lib.hid e
    clear e
    go_enter Try.func26, Try.ntmps26
    go_wp2_with fail
    go_ret
    exact ⟨ret_bool E.out.symm, rfl⟩
  · have e : amongB x f n = false := by unfold amongB; simp [h]
    have d : decide (f ≤ x) = false := decide_eq_false h
    have E := Lib.hid e
    clear e
    go_enter Try.func26, Try.ntmps26
    go_wp2_with fail
    go_ret
    exact ⟨ret_bool E.out.symm, rfl⟩
def refB (cb ct cy : Int) (cg : Bool) (f n ty : Int) : Bool :=
  if cg = false then false else if 0 ≤ ty ∧ cy = ty then true else if ct ≤ cb then amongB cb f n else amongB cb f n || (decide (0 < n) && amongB f cb (ct - cb))
theorem touch_same (cb ct cy : Int) (cg : Bool) (f n ty : Int) (a0 : 0 ≤ cb) (a1 : cb < 18446744073709551616) (b0 : 0 ≤ ct) (b1 : ct < 18446744073709551616) (c0 : 0 ≤ f) (c1 : f < 18446744073709551616) (d0 : 0 ≤ n) (d1 : n < 18446744073709551616) :
    touchB cb ct cy cg f n ty = refB cb ct cy cg f n ty := by
  unfold touchB progB refB lastZ amongB
  simp only [IntKind.wrap_u64]
  rw [Bool.eq_iff_iff]
  repeat' split
  all_goals first
    | rfl
    | (simp only [Bool.or_eq_true, Bool.and_eq_true, decide_eq_true_eq, Bool.false_eq_true, false_iff, iff_false]; omega)
end Go.Proofs.Ytinflemamegdfaa
