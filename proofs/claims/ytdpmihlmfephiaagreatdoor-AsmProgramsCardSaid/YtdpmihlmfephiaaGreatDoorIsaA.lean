/- Contracts of package isa's functions on numbers: fields, kinds, shifts, registers. -/
import Derived.Test.YtdpmihlmfephiaaGreatDoorWordA
import Derived.Test.YtdpmihlmfephiaaGreatDoorIsaN
import Derived.Lib.SmallJoins
import Derived.Lib.Hide
import Derived.Great.Walk
import Derived.Laws.EntriesVeiled
import Derived.Laws.NewBlocks
import Derived.Deep.RegionHeld3
namespace Go.Proofs.YtdpmihlmfephiaaGreatDoor
set_option linter.unusedVariables false
set_option linter.unusedSimpArgs false
open Go.Joins Go.ChangeShapes Go.WideShapes Go.ChangeAt Go.RowKit

theorem boxed {w W' : World} {cs : Array Value} {t : TypeId} (h : Below (w.alloc (.cells cs t)).heap.size (w.alloc (.cells cs t)) W') (j : Nat) : W'.cell? ⟨w.heap.size, j, none⟩ = cs[j]? := by
  rw [h.cell (p := ⟨w.heap.size, j, none⟩) (by rw [size_alloc]; exact Nat.lt_succ_self _)]
  exact cell_of_row _ _ j cs t (0, 0) (heap_alloc_new w _)
theorem boxedF {w W' : World} {cs : Array Value} {t : TypeId} (h : Below (w.alloc (.cells cs t)).heap.size (w.alloc (.cells cs t)) W') (j : Nat) : W'.frozen? ⟨w.heap.size, j, none⟩ = false := by
  have hb := h.block w.heap.size (by rw [size_alloc]; exact Nat.lt_succ_self _)
  have : W'.heap[w.heap.size]? = some (.cells cs t) := by
    rw [hb]; exact heap_alloc_new w _
  unfold World.frozen?
  simp [this]
theorem quiet_below {B : Nat} {w w' : World} (h : Quiet w w') : Below B w w' := by
  obtain ⟨n, rfl⟩ := h; exact ⟨rfl, rfl, rfl, Nat.le_refl _, fun _ _ => rfl⟩

theorem field_any (x : Nat) (f m : Int) (w : World) (hx : x < 4294967296) (h0 : 0 ≤ f) (h1 : 1 ≤ m) (h2 : f + m ≤ 32) :
    Calls Tryz.prog 101 #[.int .u32 (x : Int), .int .i64 f, .int .i64 m] w fun e w' => e = .returned (.int .u32 ((x / 2 ^ f.toNat % 2 ^ m.toNat : Nat) : Int)) ∧ Below w.heap.size w w' := by
  have hv : bitsZ (x : Int) f m % 4294967296 = ((x / 2 ^ f.toNat % 2 ^ m.toNat : Nat) : Int) := by
    unfold bitsZ
    rw [if_neg (by omega), Int.toNat_natCast]
    unfold bitsN
    have hl : x / 2 ^ f.toNat % 2 ^ m.toNat < 4294967296 := Nat.lt_of_le_of_lt (Nat.mod_le _ _) (Nat.lt_of_le_of_lt (Nat.div_le_self _ _) hx)
    omega
  have HV := Lib.hid hv
  clear hv
  go_enter Tryz.func101, Tryz.ntmps101
  go_wp2_with fail
  refine (bits_any _ _ _ _ (by omega) (by omega)).mono ?_; rintro e w' ⟨rfl, hq⟩
  go_wp2_with fail
  go_ret
  exact ⟨ret_int HV.out, quiet_below hq⟩
theorem and127 (x : Nat) (hx : x < 4294967296) : bits .and .u32 (x : Int) 127 = ((x % 128 : Nat) : Int) := by
  have := u32_and_nat x 127 hx (by decide)
  rw [show ((127 : Nat) : Int) = 127 from rfl, nat_mask7] at this
  exact this
theorem code_any (x : Nat) (w : World) (hx : x < 4294967296) :
    Calls Tryz.prog 87 #[.int .u32 (x : Int)] w fun e w' => e = .returned (.int .u32 ((x % 128 : Nat) : Int)) ∧ w = w' := by
  go_enter Tryz.func87, Tryz.ntmps87
  go_wp2_with fail
  go_ret
  exact ⟨ret_int (and127 x hx), rfl⟩
theorem kindOfCap_any (x : Nat) (w : World) (hx : x < 4294967296) :
    Calls Tryz.prog 97 #[.int .u32 (x : Int)] w fun e w' => e = .returned (.int .i64 (kindC ((x / 33554432 % 128 : Nat) : Int))) ∧ Below w.heap.size w w' := by
  obtain ⟨f, hf⟩ : ∃ v, ((x / 33554432 % 128 : Nat) : Int) = v := ⟨_, rfl⟩
  rw [hf]
  have HF := Lib.hid hf
  clear hf
  go_enter Tryz.func97, Tryz.ntmps97
  go_wp2_with fail
  refine (field_any _ _ _ _ hx (by decide) (by decide) (by decide)).mono ?_; rintro e w' ⟨rfl, hq⟩
  rw [show x / 2 ^ (25 : Int).toNat % 2 ^ (7 : Int).toNat = x / 33554432 % 128 from rfl, HF.out]
  have HB := Lib.hid hq
  clear hq
  go_wp2_with fail
  all_goals exact bodyPost_ret (v := .int .i64 (kindC f)) (by simp [results, Tryz.results97, go_sem, kindC, *]) rfl ⟨rfl, HB.out⟩
theorem kindOf_any (x : Nat) (w : World) (hx : x < 4294967296) :
    Calls Tryz.prog 64 #[.int .u32 (x : Int)] w fun e w' => e = .returned (.int .i64 (kindZ x)) ∧ Below w.heap.size w w' := by
  have hk := fun w => kindOfCap_any x w hx
  unfold kindZ
  obtain ⟨c, hc⟩ : ∃ v, ((x % 128 : Nat) : Int) = v := ⟨_, rfl⟩
  obtain ⟨f, hf⟩ : ∃ v, ((x / 33554432 % 128 : Nat) : Int) = v := ⟨_, rfl⟩
  rw [hc, hf]
  rw [hf] at hk
  have HK := Lib.hid hk
  have HC := Lib.hid hc
  clear hk hc hf
  go_enter Tryz.func64, Tryz.ntmps64
  go_wp2_with fail
  refine (code_any _ _ hx).mono ?_; rintro e w' ⟨rfl, rfl⟩
  rw [HC.out]
  go_wp2_with (go_at_call 97; refine (HK.out _).mono ?_; rintro e w' ⟨rfl, hq⟩; have HB := Lib.hid hq; clear hq)
  all_goals first
    | exact bodyPost_ret (v := .int .i64 (kindD c f)) (by simp [results, Tryz.results64, go_sem, kindD, *]) rfl ⟨rfl, HB.out⟩
    | exact bodyPost_ret (v := .int .i64 (kindD c f)) (by simp [results, Tryz.results64, go_sem, kindD, *]) rfl ⟨rfl, Below.refl _ _⟩
theorem shift_any (x : Nat) (w : World) (hx : x < 4294967296) :
    Calls Tryz.prog 67 #[.int .u32 (x : Int)] w fun e w' => e = .returned (.int .i64 (shiftZ x)) ∧ Below w.heap.size w w' := by
  have hk := fun w => code_any x w hx
  unfold shiftZ
  obtain ⟨c, hc⟩ : ∃ v, ((x % 128 : Nat) : Int) = v := ⟨_, rfl⟩
  obtain ⟨f, hf⟩ : ∃ v, ((x / 4096 % 8 : Nat) : Int) = v := ⟨_, rfl⟩
  rw [hc, hf]
  rw [hc] at hk
  have HK := Lib.hid hk
  have HF := Lib.hid hf
  clear hk hc hf
  go_enter Tryz.func67, Tryz.ntmps67
  go_wp2_with fail
  refine (field_any _ _ _ _ hx (by decide) (by decide) (by decide)).mono ?_; rintro e w' ⟨rfl, hq⟩
  rw [show x / 2 ^ (12 : Int).toNat % 2 ^ (3 : Int).toNat = x / 4096 % 8 from rfl, HF.out]
  have HB := Lib.hid hq
  clear hq
  go_wp2_with (go_at_call 87; refine (HK.out _).mono ?_; rintro e w' ⟨rfl, rfl⟩)
  all_goals (refine bodyPost_ret (v := .int .i64 (shiftD c f)) ?_ rfl ⟨rfl, HB.out⟩)
  all_goals first
    | (simp [results, Tryz.results67, go_sem, shiftD, *]; done)
    | (clear HK HF HB; simp [results, Tryz.results67, go_sem, shiftD, *]; simp_all; done)
theorem has_any (k : Int) (w : World) :
    Calls Tryz.prog 98 #[.int .i64 k] w fun e w' => e = .returned (.tuple #[.bool (hasZ k).1, .bool (hasZ k).2.1, .bool (hasZ k).2.2]) ∧ w = w' := by
  go_enter Tryz.func98, Tryz.ntmps98
  go_wp2_with fail
  all_goals exact bodyPost_ret (v := .tuple #[.bool (hasZ k).1, .bool (hasZ k).2.1, .bool (hasZ k).2.2]) (by simp [results, Tryz.results98, go_sem, hasZ, *]) rfl ⟨rfl, rfl⟩
theorem fits_reg (n : Int) (t : Bool) (w : World) :
    Calls Tryz.prog 99 #[.int .i64 n, .bool t] w fun e w' => e = .returned (.bool (fitB n t)) ∧ w = w' := by
  cases t
  all_goals
    go_enter Tryz.func99, Tryz.ntmps99
    go_wp2_with fail
    all_goals (refine bodyPost_ret (v := .bool (fitB n _)) ?_ rfl ⟨rfl, rfl⟩)
    all_goals first
      | (simp [results, Tryz.results99, go_sem, fitB, *]; done)
      | (simp [results, Tryz.results99, go_sem, fitB, *]; rw [Bool.eq_iff_iff]; simp; omega)
end Go.Proofs.YtdpmihlmfephiaaGreatDoor
