/- The walk of AluReckons. -/
import Derived.Test.YtoijhhacgafblabDoorAluK2
import Derived.Test.YtoijhhacgafblabDoorAluK3
import Derived.Test.YtoijhhacgafblabDoorAluQ
namespace Go.Proofs.YtoijhhacgafblabDoor
set_option linter.unusedVariables false
set_option linter.unusedSimpArgs false
open Go.Joins Go.ChangeShapes Go.WideShapes Go.ChangeAt Go.RowKit

def Same (op : Int) (s : List UInt8) (x y : Nat) : Prop := ∃ (z : Int) (o : Bool),
  (∀ w, Calls Tryd.prog 12 #[.int .i64 op, .int .u64 x, .int .u64 y] w fun e w' => e = .returned (.tuple #[.int .u64 z, .bool o]) ∧ Below w.heap.size w w') ∧
  (∀ w, Calls Tryd.prog 13 #[.string ⟨s.toArray⟩, .int .u64 x, .int .u64 y] w fun e w' => e = .returned (.tuple #[.int .u64 z, .bool o]) ∧ Below w.heap.size w w')
theorem rz_4 (a b : Int) : reckZ 4 a b = numZ (decide (wrap64 (a) < wrap64 (b))) := by unfold reckZ; unfold zWhole; unfold zBelow; rfl
theorem rz_8 (a b : Int) : reckZ 8 a b = IntKind.u64.wrap (wrap64 (a) / 2 ^ (b % 64).toNat) := by unfold reckZ; unfold zWhole; unfold zRightSigned; rfl
theorem rz_30 (a b : Int) : reckZ 30 a b = numZ (decide (wrap64 (a) < wrap64 (b))) := by unfold reckZ; unfold zWhole; unfold zBelow; rfl
theorem rz_37 (a b : Int) : reckZ 37 a b = IntKind.u64.wrap (wrap64 (a) / 2 ^ (b % 64).toNat) := by unfold reckZ; unfold zWhole; unfold zRightSigned; rfl
theorem same_1 (x y : Nat) (hx : x < 18446744073709551616) (hy : y < 18446744073709551616) : Same 1 (opN 1) x y :=
  ⟨IntKind.u64.wrap ((x : Int) + (y : Int)), true, fun w => reckon_1 x y w ⟨by omega, by omega⟩ ⟨by omega, by omega⟩, fun w => rk_add x y w hx hy⟩
theorem same_2 (x y : Nat) (hx : x < 18446744073709551616) (hy : y < 18446744073709551616) : Same 2 (opN 2) x y :=
  ⟨IntKind.u64.wrap ((x : Int) - (y : Int)), true, fun w => reckon_2 x y w ⟨by omega, by omega⟩ ⟨by omega, by omega⟩, fun w => rk_sub x y w hx hy⟩
theorem same_3 (x y : Nat) (hx : x < 18446744073709551616) (hy : y < 18446744073709551616) : Same 3 (opN 3) x y :=
  ⟨IntKind.u64.wrap ((x : Int) * 2 ^ ((y : Int) % 64).toNat), true, fun w => reckon_3 x y w ⟨by omega, by omega⟩ ⟨by omega, by omega⟩, fun w => rk_sll x y w hx hy⟩
theorem same_4 (x y : Nat) (hx : x < 18446744073709551616) (hy : y < 18446744073709551616) : Same 4 (opN 4) x y :=
  ⟨numZ (decide (wrap64 ((x : Int)) < wrap64 ((y : Int)))), true, fun w => by rw [← rz_4]; exact reckon_4 x y w ⟨by omega, by omega⟩ ⟨by omega, by omega⟩, fun w => rk_slt x y w hx hy⟩
theorem same_5 (x y : Nat) (hx : x < 18446744073709551616) (hy : y < 18446744073709551616) : Same 5 (opN 5) x y :=
  ⟨numZ (decide ((x : Int) < (y : Int))), true, fun w => reckon_5 x y w ⟨by omega, by omega⟩ ⟨by omega, by omega⟩, fun w => rk_sltu x y w hx hy⟩
theorem same_6 (x y : Nat) (hx : x < 18446744073709551616) (hy : y < 18446744073709551616) : Same 6 (opN 6) x y :=
  ⟨bits .xor .u64 ((x : Int)) ((y : Int)), true, fun w => reckon_6 x y w ⟨by omega, by omega⟩ ⟨by omega, by omega⟩, fun w => rk_xor x y w hx hy⟩
theorem same_7 (x y : Nat) (hx : x < 18446744073709551616) (hy : y < 18446744073709551616) : Same 7 (opN 7) x y :=
  ⟨(x : Int) / 2 ^ ((y : Int) % 64).toNat, true, fun w => reckon_7 x y w ⟨by omega, by omega⟩ ⟨by omega, by omega⟩, fun w => rk_srl x y w hx hy⟩
theorem same_8 (x y : Nat) (hx : x < 18446744073709551616) (hy : y < 18446744073709551616) : Same 8 (opN 8) x y :=
  ⟨IntKind.u64.wrap (wrap64 ((x : Int)) / 2 ^ ((y : Int) % 64).toNat), true, fun w => by rw [← rz_8]; exact reckon_8 x y w ⟨by omega, by omega⟩ ⟨by omega, by omega⟩, fun w => rk_sra x y w hx hy⟩
theorem same_9 (x y : Nat) (hx : x < 18446744073709551616) (hy : y < 18446744073709551616) : Same 9 (opN 9) x y :=
  ⟨bits .or .u64 ((x : Int)) ((y : Int)), true, fun w => reckon_9 x y w ⟨by omega, by omega⟩ ⟨by omega, by omega⟩, fun w => rk_or x y w hx hy⟩
theorem same_10 (x y : Nat) (hx : x < 18446744073709551616) (hy : y < 18446744073709551616) : Same 10 (opN 10) x y :=
  ⟨bits .and .u64 ((x : Int)) ((y : Int)), true, fun w => reckon_10 x y w ⟨by omega, by omega⟩ ⟨by omega, by omega⟩, fun w => rk_and x y w hx hy⟩
theorem same_11 (x y : Nat) (hx : x < 18446744073709551616) (hy : y < 18446744073709551616) : Same 11 (opN 11) x y :=
  ⟨IntKind.u64.wrap ((x : Int) * (y : Int)), true, fun w => reckon_11 x y w ⟨by omega, by omega⟩ ⟨by omega, by omega⟩, fun w => rk_mul x y w hx hy⟩
theorem same_12 (x y : Nat) (hx : x < 18446744073709551616) (hy : y < 18446744073709551616) : Same 12 (opN 12) x y :=
  ⟨highZ ((x : Int)) ((y : Int)) true true, true, fun w => reckon_12 x y w ⟨by omega, by omega⟩ ⟨by omega, by omega⟩, fun w => rk_mulh x y w hx hy⟩
theorem same_13 (x y : Nat) (hx : x < 18446744073709551616) (hy : y < 18446744073709551616) : Same 13 (opN 13) x y :=
  ⟨highZ ((x : Int)) ((y : Int)) true false, true, fun w => reckon_13 x y w ⟨by omega, by omega⟩ ⟨by omega, by omega⟩, fun w => rk_mulhsu x y w hx hy⟩
theorem same_14 (x y : Nat) (hx : x < 18446744073709551616) (hy : y < 18446744073709551616) : Same 14 (opN 14) x y :=
  ⟨highZ ((x : Int)) ((y : Int)) false false, true, fun w => reckon_14 x y w ⟨by omega, by omega⟩ ⟨by omega, by omega⟩, fun w => rk_mulhu x y w hx hy⟩
theorem same_15 (x y : Nat) (hx : x < 18446744073709551616) (hy : y < 18446744073709551616) : Same 15 (opN 15) x y :=
  ⟨quotZ ((x : Int)) ((y : Int)) true, true, fun w => reckon_15 x y w ⟨by omega, by omega⟩ ⟨by omega, by omega⟩, fun w => rk_div x y w hx hy⟩
theorem same_16 (x y : Nat) (hx : x < 18446744073709551616) (hy : y < 18446744073709551616) : Same 16 (opN 16) x y :=
  ⟨quotZ ((x : Int)) ((y : Int)) false, true, fun w => reckon_16 x y w ⟨by omega, by omega⟩ ⟨by omega, by omega⟩, fun w => rk_divu x y w hx hy⟩
theorem same_17 (x y : Nat) (hx : x < 18446744073709551616) (hy : y < 18446744073709551616) : Same 17 (opN 17) x y :=
  ⟨restZ ((x : Int)) ((y : Int)) true, true, fun w => reckon_17 x y w ⟨by omega, by omega⟩ ⟨by omega, by omega⟩, fun w => rk_rem x y w hx hy⟩
theorem same_18 (x y : Nat) (hx : x < 18446744073709551616) (hy : y < 18446744073709551616) : Same 18 (opN 18) x y :=
  ⟨restZ ((x : Int)) ((y : Int)) false, true, fun w => reckon_18 x y w ⟨by omega, by omega⟩ ⟨by omega, by omega⟩, fun w => rk_remu x y w hx hy⟩
theorem same_19 (x y : Nat) (hx : x < 18446744073709551616) (hy : y < 18446744073709551616) : Same 19 (opN 19) x y :=
  ⟨signZ (IntKind.u64.wrap ((signZ ((x : Int)) 32) + (signZ ((y : Int)) 32))) 32, true, fun w => reckon_19 x y w ⟨by omega, by omega⟩ ⟨by omega, by omega⟩, fun w => rk_addw x y w hx hy⟩
theorem same_20 (x y : Nat) (hx : x < 18446744073709551616) (hy : y < 18446744073709551616) : Same 20 (opN 20) x y :=
  ⟨signZ (IntKind.u64.wrap ((signZ ((x : Int)) 32) - (signZ ((y : Int)) 32))) 32, true, fun w => reckon_20 x y w ⟨by omega, by omega⟩ ⟨by omega, by omega⟩, fun w => rk_subw x y w hx hy⟩
theorem same_21 (x y : Nat) (hx : x < 18446744073709551616) (hy : y < 18446744073709551616) : Same 21 (opN 21) x y :=
  ⟨signZ (IntKind.u64.wrap ((signZ ((x : Int)) 32) * 2 ^ ((signZ ((y : Int)) 32) % 32).toNat)) 32, true, fun w => reckon_21 x y w ⟨by omega, by omega⟩ ⟨by omega, by omega⟩, fun w => rk_sllw x y w hx hy⟩
theorem same_22 (x y : Nat) (hx : x < 18446744073709551616) (hy : y < 18446744073709551616) : Same 22 (opN 22) x y :=
  ⟨signZ ((bitsZ ((x : Int)) 0 32) / 2 ^ ((bitsZ ((y : Int)) 0 32) % 32).toNat) 32, true, fun w => reckon_22 x y w ⟨by omega, by omega⟩ ⟨by omega, by omega⟩, fun w => rk_srlw x y w hx hy⟩
theorem same_23 (x y : Nat) (hx : x < 18446744073709551616) (hy : y < 18446744073709551616) : Same 23 (opN 23) x y :=
  ⟨signZ (IntKind.u64.wrap (wrap64 ((signZ ((x : Int)) 32)) / 2 ^ ((signZ ((y : Int)) 32) % 32).toNat)) 32, true, fun w => reckon_23 x y w ⟨by omega, by omega⟩ ⟨by omega, by omega⟩, fun w => rk_sraw x y w hx hy⟩
theorem same_24 (x y : Nat) (hx : x < 18446744073709551616) (hy : y < 18446744073709551616) : Same 24 (opN 24) x y :=
  ⟨signZ (IntKind.u64.wrap ((signZ ((x : Int)) 32) * (signZ ((y : Int)) 32))) 32, true, fun w => reckon_24 x y w ⟨by omega, by omega⟩ ⟨by omega, by omega⟩, fun w => rk_mulw x y w hx hy⟩
theorem same_25 (x y : Nat) (hx : x < 18446744073709551616) (hy : y < 18446744073709551616) : Same 25 (opN 25) x y :=
  ⟨signZ (quotZ ((signZ ((x : Int)) 32)) ((signZ ((y : Int)) 32)) true) 32, true, fun w => reckon_25 x y w ⟨by omega, by omega⟩ ⟨by omega, by omega⟩, fun w => rk_divw x y w hx hy⟩
theorem same_26 (x y : Nat) (hx : x < 18446744073709551616) (hy : y < 18446744073709551616) : Same 26 (opN 26) x y :=
  ⟨signZ (quotZ ((bitsZ ((x : Int)) 0 32)) ((bitsZ ((y : Int)) 0 32)) false) 32, true, fun w => reckon_26 x y w ⟨by omega, by omega⟩ ⟨by omega, by omega⟩, fun w => rk_divuw x y w hx hy⟩
theorem same_27 (x y : Nat) (hx : x < 18446744073709551616) (hy : y < 18446744073709551616) : Same 27 (opN 27) x y :=
  ⟨signZ (restZ ((signZ ((x : Int)) 32)) ((signZ ((y : Int)) 32)) true) 32, true, fun w => reckon_27 x y w ⟨by omega, by omega⟩ ⟨by omega, by omega⟩, fun w => rk_remw x y w hx hy⟩
theorem same_28 (x y : Nat) (hx : x < 18446744073709551616) (hy : y < 18446744073709551616) : Same 28 (opN 28) x y :=
  ⟨signZ (restZ ((bitsZ ((x : Int)) 0 32)) ((bitsZ ((y : Int)) 0 32)) false) 32, true, fun w => reckon_28 x y w ⟨by omega, by omega⟩ ⟨by omega, by omega⟩, fun w => rk_remuw x y w hx hy⟩
theorem same_29 (x y : Nat) (hx : x < 18446744073709551616) (hy : y < 18446744073709551616) : Same 29 (opN 29) x y :=
  ⟨IntKind.u64.wrap ((x : Int) + (y : Int)), true, fun w => reckon_29 x y w ⟨by omega, by omega⟩ ⟨by omega, by omega⟩, fun w => rk_addi x y w hx hy⟩
theorem same_30 (x y : Nat) (hx : x < 18446744073709551616) (hy : y < 18446744073709551616) : Same 30 (opN 30) x y :=
  ⟨numZ (decide (wrap64 ((x : Int)) < wrap64 ((y : Int)))), true, fun w => by rw [← rz_30]; exact reckon_30 x y w ⟨by omega, by omega⟩ ⟨by omega, by omega⟩, fun w => rk_slti x y w hx hy⟩
theorem same_31 (x y : Nat) (hx : x < 18446744073709551616) (hy : y < 18446744073709551616) : Same 31 (opN 31) x y :=
  ⟨numZ (decide ((x : Int) < (y : Int))), true, fun w => reckon_31 x y w ⟨by omega, by omega⟩ ⟨by omega, by omega⟩, fun w => rk_sltiu x y w hx hy⟩
theorem same_32 (x y : Nat) (hx : x < 18446744073709551616) (hy : y < 18446744073709551616) : Same 32 (opN 32) x y :=
  ⟨bits .xor .u64 ((x : Int)) ((y : Int)), true, fun w => reckon_32 x y w ⟨by omega, by omega⟩ ⟨by omega, by omega⟩, fun w => rk_xori x y w hx hy⟩
theorem same_33 (x y : Nat) (hx : x < 18446744073709551616) (hy : y < 18446744073709551616) : Same 33 (opN 33) x y :=
  ⟨bits .or .u64 ((x : Int)) ((y : Int)), true, fun w => reckon_33 x y w ⟨by omega, by omega⟩ ⟨by omega, by omega⟩, fun w => rk_ori x y w hx hy⟩
theorem same_34 (x y : Nat) (hx : x < 18446744073709551616) (hy : y < 18446744073709551616) : Same 34 (opN 34) x y :=
  ⟨bits .and .u64 ((x : Int)) ((y : Int)), true, fun w => reckon_34 x y w ⟨by omega, by omega⟩ ⟨by omega, by omega⟩, fun w => rk_andi x y w hx hy⟩
theorem same_35 (x y : Nat) (hx : x < 18446744073709551616) (hy : y < 18446744073709551616) : Same 35 (opN 35) x y :=
  ⟨IntKind.u64.wrap ((x : Int) * 2 ^ ((y : Int) % 64).toNat), true, fun w => reckon_35 x y w ⟨by omega, by omega⟩ ⟨by omega, by omega⟩, fun w => rk_slli x y w hx hy⟩
theorem same_36 (x y : Nat) (hx : x < 18446744073709551616) (hy : y < 18446744073709551616) : Same 36 (opN 36) x y :=
  ⟨(x : Int) / 2 ^ ((y : Int) % 64).toNat, true, fun w => reckon_36 x y w ⟨by omega, by omega⟩ ⟨by omega, by omega⟩, fun w => rk_srli x y w hx hy⟩
theorem same_37 (x y : Nat) (hx : x < 18446744073709551616) (hy : y < 18446744073709551616) : Same 37 (opN 37) x y :=
  ⟨IntKind.u64.wrap (wrap64 ((x : Int)) / 2 ^ ((y : Int) % 64).toNat), true, fun w => by rw [← rz_37]; exact reckon_37 x y w ⟨by omega, by omega⟩ ⟨by omega, by omega⟩, fun w => rk_srai x y w hx hy⟩
theorem same_38 (x y : Nat) (hx : x < 18446744073709551616) (hy : y < 18446744073709551616) : Same 38 (opN 38) x y :=
  ⟨signZ (IntKind.u64.wrap ((signZ ((x : Int)) 32) + (signZ ((y : Int)) 32))) 32, true, fun w => reckon_38 x y w ⟨by omega, by omega⟩ ⟨by omega, by omega⟩, fun w => rk_addiw x y w hx hy⟩
theorem same_39 (x y : Nat) (hx : x < 18446744073709551616) (hy : y < 18446744073709551616) : Same 39 (opN 39) x y :=
  ⟨signZ (IntKind.u64.wrap ((signZ ((x : Int)) 32) * 2 ^ ((signZ ((y : Int)) 32) % 32).toNat)) 32, true, fun w => reckon_39 x y w ⟨by omega, by omega⟩ ⟨by omega, by omega⟩, fun w => rk_slliw x y w hx hy⟩
theorem same_40 (x y : Nat) (hx : x < 18446744073709551616) (hy : y < 18446744073709551616) : Same 40 (opN 40) x y :=
  ⟨signZ ((bitsZ ((x : Int)) 0 32) / 2 ^ ((bitsZ ((y : Int)) 0 32) % 32).toNat) 32, true, fun w => reckon_40 x y w ⟨by omega, by omega⟩ ⟨by omega, by omega⟩, fun w => rk_srliw x y w hx hy⟩
theorem same_41 (x y : Nat) (hx : x < 18446744073709551616) (hy : y < 18446744073709551616) : Same 41 (opN 41) x y :=
  ⟨signZ (IntKind.u64.wrap (wrap64 ((signZ ((x : Int)) 32)) / 2 ^ ((signZ ((y : Int)) 32) % 32).toNat)) 32, true, fun w => reckon_41 x y w ⟨by omega, by omega⟩ ⟨by omega, by omega⟩, fun w => rk_sraiw x y w hx hy⟩
theorem same_in (x y : Nat) (hx : x < 18446744073709551616) (hy : y < 18446744073709551616) : ∀ k : Nat, 1 ≤ k → k ≤ 41 → Same (k : Int) (opN (k : Int)) x y
  | 1, _, _ => same_1 x y hx hy
  | 2, _, _ => same_2 x y hx hy
  | 3, _, _ => same_3 x y hx hy
  | 4, _, _ => same_4 x y hx hy
  | 5, _, _ => same_5 x y hx hy
  | 6, _, _ => same_6 x y hx hy
  | 7, _, _ => same_7 x y hx hy
  | 8, _, _ => same_8 x y hx hy
  | 9, _, _ => same_9 x y hx hy
  | 10, _, _ => same_10 x y hx hy
  | 11, _, _ => same_11 x y hx hy
  | 12, _, _ => same_12 x y hx hy
  | 13, _, _ => same_13 x y hx hy
  | 14, _, _ => same_14 x y hx hy
  | 15, _, _ => same_15 x y hx hy
  | 16, _, _ => same_16 x y hx hy
  | 17, _, _ => same_17 x y hx hy
  | 18, _, _ => same_18 x y hx hy
  | 19, _, _ => same_19 x y hx hy
  | 20, _, _ => same_20 x y hx hy
  | 21, _, _ => same_21 x y hx hy
  | 22, _, _ => same_22 x y hx hy
  | 23, _, _ => same_23 x y hx hy
  | 24, _, _ => same_24 x y hx hy
  | 25, _, _ => same_25 x y hx hy
  | 26, _, _ => same_26 x y hx hy
  | 27, _, _ => same_27 x y hx hy
  | 28, _, _ => same_28 x y hx hy
  | 29, _, _ => same_29 x y hx hy
  | 30, _, _ => same_30 x y hx hy
  | 31, _, _ => same_31 x y hx hy
  | 32, _, _ => same_32 x y hx hy
  | 33, _, _ => same_33 x y hx hy
  | 34, _, _ => same_34 x y hx hy
  | 35, _, _ => same_35 x y hx hy
  | 36, _, _ => same_36 x y hx hy
  | 37, _, _ => same_37 x y hx hy
  | 38, _, _ => same_38 x y hx hy
  | 39, _, _ => same_39 x y hx hy
  | 40, _, _ => same_40 x y hx hy
  | 41, _, _ => same_41 x y hx hy
  | 0, h, _ => absurd h (by decide)
  | k + 42, _, h => absurd h (by omega)
theorem same_all (op : Int) (x y : Nat) (hx : x < 18446744073709551616) (hy : y < 18446744073709551616) : Same op (opN op) x y := by
  by_cases h : 1 ≤ op ∧ op ≤ 41
  · have := same_in x y hx hy op.toNat (by omega) (by omega)
    rw [show ((op.toNat : Nat) : Int) = op by omega] at this
    exact this
  · exact ⟨0, false, fun w => reckon_out op x y w (by omega), fun w => rk_out _ x y w (no_name op (by omega)) hx hy⟩

set_option maxHeartbeats 2000000 in
set_option maxRecDepth 8000 in
theorem AluReckons_walk (op a b : Int) (w : World) (hn : NT w) (ha : Inw a) (hb : Inw b) :
    Calls Tryd.prog 3 #[.int .i64 op, .int .u64 a, .int .u64 b] w fun e w' => e = .returned (.bool true) ∧ Below w.heap.size w w' := by
  obtain ⟨x, rfl⟩ := Int.eq_ofNat_of_zero_le ha.1
  obtain ⟨y, rfl⟩ := Int.eq_ofNat_of_zero_le hb.1
  have HN := Lib.hid hn
  have hof := fun w => of_any op w
  have hsame := same_all op x y (by have := ha.2; omega) (by have := hb.2; omega)
  clear hn ha hb
  unfold opV at hof
  generalize opN op = s at hof hsame
  generalize opR op = r at hof
  obtain ⟨r0, r1, r2, r3, r4, r5⟩ := r
  obtain ⟨z, o, h1, h2⟩ := hsame
  simp only at hof
  have OF := Lib.hid hof; have R1 := Lib.hid h1; have R2 := Lib.hid h2
  clear hof h1 h2
  go_enter Tryd.func3, Tryd.ntmps3
  go_wp2_with fail
  refine (awake_any _ HN.out).mono ?_; rintro e w1 ⟨rfl, hb⟩
  have B1 := Lib.hid hb
  clear hb
  go_wp2_with fail
  refine (OF.out _).mono ?_; rintro e w2 ⟨rfl, hb⟩
  have B2 := Lib.hid (bAlloc (bTrans B1.out hb) (.cells #[.string ⟨s.toArray⟩, .int .i64 r1, .int .i64 r2, .int .i64 r3, .int .i64 r4, .int .i64 r5] 25))
  clear hb B1
  go_wp2_with fail
  refine (R1.out _).mono ?_; rintro e w3 ⟨rfl, hb⟩
  have c0 := (boxed hb 0).trans rfl
  have B3 := Lib.hid (bTrans B2.out hb)
  clear hb B2
  go_wp2_with fail
  refine (R2.out _).mono ?_; rintro e w4 ⟨rfl, hb⟩
  have B4 := Lib.hid (bTrans B3.out hb)
  clear hb B3
  go_wp2_with fail
  go_ret
  exact ⟨rfl, B4.out⟩
end Go.Proofs.YtoijhhacgafblabDoor
