/- The document's Reckon, at the names that it and its second part know. -/
import Derived.Test.YtoijhhacgafblabDoorAluS
import Derived.Test.YtoijhhacgafblabDoorAluH
namespace Go.Proofs.YtoijhhacgafblabDoor
set_option linter.unusedVariables false
set_option linter.unusedSimpArgs false
open Go.Joins Go.ChangeShapes Go.WideShapes Go.ChangeAt Go.RowKit

theorem one_bool (o : Bool) (w : World) : Calls Tryd.prog 25 #[.bool o] w fun e w' => e = .returned (.int .u64 (numZ o)) ∧ w = w' := by
  cases o
  · go_enter Tryd.func25, Tryd.ntmps25
    go_wp2_with fail
    go_ret
    exact ⟨rfl, rfl⟩
  · go_enter Tryd.func25, Tryd.ntmps25
    go_wp2_with fail
    go_ret
    exact ⟨rfl, rfl⟩
theorem sar_low (x k : Nat) (h : x < 9223372036854775808) : IntKind.u64.wrap (wrap64 (x : Int) / 2 ^ k) = ((x / 2 ^ k : Nat) : Int) := by
  have hw : wrap64 (x : Int) = (x : Int) := by unfold wrap64; omega
  have := Nat.div_le_self x (2 ^ k)
  rw [hw, ediv_nat, wrap_nat _ (by omega)]
theorem rk_add (x y : Nat) (w : World) (hx : x < 18446744073709551616) (hy : y < 18446744073709551616) :
    Calls Tryd.prog 13 #[.string ⟨#[97, 100, 100]⟩, .int .u64 x, .int .u64 y] w fun e w' => e = .returned (.tuple #[.int .u64 (IntKind.u64.wrap ((x : Int) + (y : Int))), .bool true]) ∧ Below w.heap.size w w' := by
  go_enter Tryd.func13, Tryd.ntmps13
  go_wp2_with fail
  exact bodyPost_ret (v := .tuple #[.int .u64 (IntKind.u64.wrap ((x : Int) + (y : Int))), .bool true]) (by simp [results, Tryd.results13, go_sem]) rfl ⟨rfl, Below.refl _ _⟩

theorem rk_addi (x y : Nat) (w : World) (hx : x < 18446744073709551616) (hy : y < 18446744073709551616) :
    Calls Tryd.prog 13 #[.string ⟨#[97, 100, 100, 105]⟩, .int .u64 x, .int .u64 y] w fun e w' => e = .returned (.tuple #[.int .u64 (IntKind.u64.wrap ((x : Int) + (y : Int))), .bool true]) ∧ Below w.heap.size w w' := by
  go_enter Tryd.func13, Tryd.ntmps13
  go_wp2_with fail
  exact bodyPost_ret (v := .tuple #[.int .u64 (IntKind.u64.wrap ((x : Int) + (y : Int))), .bool true]) (by simp [results, Tryd.results13, go_sem]) rfl ⟨rfl, Below.refl _ _⟩

theorem rk_sub (x y : Nat) (w : World) (hx : x < 18446744073709551616) (hy : y < 18446744073709551616) :
    Calls Tryd.prog 13 #[.string ⟨#[115, 117, 98]⟩, .int .u64 x, .int .u64 y] w fun e w' => e = .returned (.tuple #[.int .u64 (IntKind.u64.wrap ((x : Int) - (y : Int))), .bool true]) ∧ Below w.heap.size w w' := by
  go_enter Tryd.func13, Tryd.ntmps13
  go_wp2_with fail
  exact bodyPost_ret (v := .tuple #[.int .u64 (IntKind.u64.wrap ((x : Int) - (y : Int))), .bool true]) (by simp [results, Tryd.results13, go_sem]) rfl ⟨rfl, Below.refl _ _⟩

theorem rk_sll (x y : Nat) (w : World) (hx : x < 18446744073709551616) (hy : y < 18446744073709551616) :
    Calls Tryd.prog 13 #[.string ⟨#[115, 108, 108]⟩, .int .u64 x, .int .u64 y] w fun e w' => e = .returned (.tuple #[.int .u64 (IntKind.u64.wrap ((x : Int) * 2 ^ ((y : Int) % 64).toNat)), .bool true]) ∧ Below w.heap.size w w' := by
  have e64 : ((y : Int) % 64) = ((y % 64 : Nat) : Int) := rfl
  have t64 : ((y : Int) % 64).toNat = y % 64 := by omega
  have E := Lib.hid e64
  have T := Lib.hid t64
  clear e64 t64
  go_enter Tryd.func13, Tryd.ntmps13
  go_wp2_with fail
  rw [E.out]
  refine (rup_any x (y % 64) _ hx (by omega)).mono ?_; rintro e w' ⟨rfl, rfl⟩
  go_wp2_with fail
  have hv : (IntKind.u64.wrap ((x : Int) * 2 ^ ((y : Int) % 64).toNat) : Int) = IntKind.u64.wrap ((x : Int) * 2 ^ (y % 64)) := by rw [T.out]
  rw [hv]
  exact bodyPost_ret (v := .tuple #[.int .u64 (IntKind.u64.wrap ((x : Int) * 2 ^ (y % 64))), .bool true]) (by simp [results, Tryd.results13, go_sem]) rfl ⟨rfl, Below.refl _ _⟩

theorem rk_slli (x y : Nat) (w : World) (hx : x < 18446744073709551616) (hy : y < 18446744073709551616) :
    Calls Tryd.prog 13 #[.string ⟨#[115, 108, 108, 105]⟩, .int .u64 x, .int .u64 y] w fun e w' => e = .returned (.tuple #[.int .u64 (IntKind.u64.wrap ((x : Int) * 2 ^ ((y : Int) % 64).toNat)), .bool true]) ∧ Below w.heap.size w w' := by
  have e64 : ((y : Int) % 64) = ((y % 64 : Nat) : Int) := rfl
  have t64 : ((y : Int) % 64).toNat = y % 64 := by omega
  have E := Lib.hid e64
  have T := Lib.hid t64
  clear e64 t64
  go_enter Tryd.func13, Tryd.ntmps13
  go_wp2_with fail
  rw [E.out]
  refine (rup_any x (y % 64) _ hx (by omega)).mono ?_; rintro e w' ⟨rfl, rfl⟩
  go_wp2_with fail
  have hv : (IntKind.u64.wrap ((x : Int) * 2 ^ ((y : Int) % 64).toNat) : Int) = IntKind.u64.wrap ((x : Int) * 2 ^ (y % 64)) := by rw [T.out]
  rw [hv]
  exact bodyPost_ret (v := .tuple #[.int .u64 (IntKind.u64.wrap ((x : Int) * 2 ^ (y % 64))), .bool true]) (by simp [results, Tryd.results13, go_sem]) rfl ⟨rfl, Below.refl _ _⟩

theorem rk_slt (x y : Nat) (w : World) (hx : x < 18446744073709551616) (hy : y < 18446744073709551616) :
    Calls Tryd.prog 13 #[.string ⟨#[115, 108, 116]⟩, .int .u64 x, .int .u64 y] w fun e w' => e = .returned (.tuple #[.int .u64 (numZ (decide (wrap64 ((x : Int)) < wrap64 ((y : Int))))), .bool true]) ∧ Below w.heap.size w w' := by
  go_enter Tryd.func13, Tryd.ntmps13
  go_wp2_with fail
  refine (rbelow_any x y _ (by omega) (by omega) (by omega) (by omega)).mono ?_; rintro e w' ⟨rfl, rfl⟩
  generalize hq : decide (wrap64 (x : Int) < wrap64 (y : Int)) = q
  have HQ := Lib.hid hq
  clear hq
  go_wp2_with fail
  refine (one_bool q _).mono ?_; rintro e w' ⟨rfl, rfl⟩
  generalize hz : numZ q = z
  have HZ := Lib.hid hz
  clear hz
  go_wp2_with fail
  exact bodyPost_ret (v := .tuple #[.int .u64 z, .bool true]) (by simp [results, Tryd.results13, go_sem]) rfl ⟨by rw [HQ.out, HZ.out], Below.refl _ _⟩

theorem rk_slti (x y : Nat) (w : World) (hx : x < 18446744073709551616) (hy : y < 18446744073709551616) :
    Calls Tryd.prog 13 #[.string ⟨#[115, 108, 116, 105]⟩, .int .u64 x, .int .u64 y] w fun e w' => e = .returned (.tuple #[.int .u64 (numZ (decide (wrap64 ((x : Int)) < wrap64 ((y : Int))))), .bool true]) ∧ Below w.heap.size w w' := by
  go_enter Tryd.func13, Tryd.ntmps13
  go_wp2_with fail
  refine (rbelow_any x y _ (by omega) (by omega) (by omega) (by omega)).mono ?_; rintro e w' ⟨rfl, rfl⟩
  generalize hq : decide (wrap64 (x : Int) < wrap64 (y : Int)) = q
  have HQ := Lib.hid hq
  clear hq
  go_wp2_with fail
  refine (one_bool q _).mono ?_; rintro e w' ⟨rfl, rfl⟩
  generalize hz : numZ q = z
  have HZ := Lib.hid hz
  clear hz
  go_wp2_with fail
  exact bodyPost_ret (v := .tuple #[.int .u64 z, .bool true]) (by simp [results, Tryd.results13, go_sem]) rfl ⟨by rw [HQ.out, HZ.out], Below.refl _ _⟩

theorem rk_sltu (x y : Nat) (w : World) (hx : x < 18446744073709551616) (hy : y < 18446744073709551616) :
    Calls Tryd.prog 13 #[.string ⟨#[115, 108, 116, 117]⟩, .int .u64 x, .int .u64 y] w fun e w' => e = .returned (.tuple #[.int .u64 (numZ (decide ((x : Int) < (y : Int)))), .bool true]) ∧ Below w.heap.size w w' := by
  have hq : decide ((x : Int) < (y : Int)) = decide (x < y) := by simp
  rw [hq]
  clear hq
  go_enter Tryd.func13, Tryd.ntmps13
  go_wp2_with fail
  refine (one_bool (decide (x < y)) _).mono ?_; rintro e w' ⟨rfl, rfl⟩
  generalize hz : numZ (decide (x < y)) = z
  have HZ := Lib.hid hz
  clear hz
  go_wp2_with fail
  exact bodyPost_ret (v := .tuple #[.int .u64 z, .bool true]) (by simp [results, Tryd.results13, go_sem]) rfl ⟨by rw [HZ.out], Below.refl _ _⟩

theorem rk_sltiu (x y : Nat) (w : World) (hx : x < 18446744073709551616) (hy : y < 18446744073709551616) :
    Calls Tryd.prog 13 #[.string ⟨#[115, 108, 116, 105, 117]⟩, .int .u64 x, .int .u64 y] w fun e w' => e = .returned (.tuple #[.int .u64 (numZ (decide ((x : Int) < (y : Int)))), .bool true]) ∧ Below w.heap.size w w' := by
  have hq : decide ((x : Int) < (y : Int)) = decide (x < y) := by simp
  rw [hq]
  clear hq
  go_enter Tryd.func13, Tryd.ntmps13
  go_wp2_with fail
  refine (one_bool (decide (x < y)) _).mono ?_; rintro e w' ⟨rfl, rfl⟩
  generalize hz : numZ (decide (x < y)) = z
  have HZ := Lib.hid hz
  clear hz
  go_wp2_with fail
  exact bodyPost_ret (v := .tuple #[.int .u64 z, .bool true]) (by simp [results, Tryd.results13, go_sem]) rfl ⟨by rw [HZ.out], Below.refl _ _⟩

theorem rk_xor (x y : Nat) (w : World) (hx : x < 18446744073709551616) (hy : y < 18446744073709551616) :
    Calls Tryd.prog 13 #[.string ⟨#[120, 111, 114]⟩, .int .u64 x, .int .u64 y] w fun e w' => e = .returned (.tuple #[.int .u64 (bits .xor .u64 ((x : Int)) ((y : Int))), .bool true]) ∧ Below w.heap.size w w' := by
  have hv : bits .xor .u64 (x : Int) (y : Int) = ((x ^^^ y : Nat) : Int) := u64_xor_nat x y hx hy
  rw [hv]
  clear hv
  go_enter Tryd.func13, Tryd.ntmps13
  go_wp2_with fail
  refine (rbitxor_any x y _ hx hy).mono ?_; rintro e w' ⟨rfl, rfl⟩
  generalize hz : (x ^^^ y) = z
  have HZ := Lib.hid hz
  clear hz
  go_wp2_with fail
  exact bodyPost_ret (v := .tuple #[.int .u64 z, .bool true]) (by simp [results, Tryd.results13, go_sem]) rfl ⟨by rw [HZ.out], Below.refl _ _⟩

theorem rk_xori (x y : Nat) (w : World) (hx : x < 18446744073709551616) (hy : y < 18446744073709551616) :
    Calls Tryd.prog 13 #[.string ⟨#[120, 111, 114, 105]⟩, .int .u64 x, .int .u64 y] w fun e w' => e = .returned (.tuple #[.int .u64 (bits .xor .u64 ((x : Int)) ((y : Int))), .bool true]) ∧ Below w.heap.size w w' := by
  have hv : bits .xor .u64 (x : Int) (y : Int) = ((x ^^^ y : Nat) : Int) := u64_xor_nat x y hx hy
  rw [hv]
  clear hv
  go_enter Tryd.func13, Tryd.ntmps13
  go_wp2_with fail
  refine (rbitxor_any x y _ hx hy).mono ?_; rintro e w' ⟨rfl, rfl⟩
  generalize hz : (x ^^^ y) = z
  have HZ := Lib.hid hz
  clear hz
  go_wp2_with fail
  exact bodyPost_ret (v := .tuple #[.int .u64 z, .bool true]) (by simp [results, Tryd.results13, go_sem]) rfl ⟨by rw [HZ.out], Below.refl _ _⟩

theorem rk_or (x y : Nat) (w : World) (hx : x < 18446744073709551616) (hy : y < 18446744073709551616) :
    Calls Tryd.prog 13 #[.string ⟨#[111, 114]⟩, .int .u64 x, .int .u64 y] w fun e w' => e = .returned (.tuple #[.int .u64 (bits .or .u64 ((x : Int)) ((y : Int))), .bool true]) ∧ Below w.heap.size w w' := by
  have hv : bits .or .u64 (x : Int) (y : Int) = ((x ||| y : Nat) : Int) := u64_or_nat x y hx hy
  rw [hv]
  clear hv
  go_enter Tryd.func13, Tryd.ntmps13
  go_wp2_with fail
  refine (rbitor_any x y _ hx hy).mono ?_; rintro e w' ⟨rfl, rfl⟩
  generalize hz : (x ||| y) = z
  have HZ := Lib.hid hz
  clear hz
  go_wp2_with fail
  exact bodyPost_ret (v := .tuple #[.int .u64 z, .bool true]) (by simp [results, Tryd.results13, go_sem]) rfl ⟨by rw [HZ.out], Below.refl _ _⟩

theorem rk_ori (x y : Nat) (w : World) (hx : x < 18446744073709551616) (hy : y < 18446744073709551616) :
    Calls Tryd.prog 13 #[.string ⟨#[111, 114, 105]⟩, .int .u64 x, .int .u64 y] w fun e w' => e = .returned (.tuple #[.int .u64 (bits .or .u64 ((x : Int)) ((y : Int))), .bool true]) ∧ Below w.heap.size w w' := by
  have hv : bits .or .u64 (x : Int) (y : Int) = ((x ||| y : Nat) : Int) := u64_or_nat x y hx hy
  rw [hv]
  clear hv
  go_enter Tryd.func13, Tryd.ntmps13
  go_wp2_with fail
  refine (rbitor_any x y _ hx hy).mono ?_; rintro e w' ⟨rfl, rfl⟩
  generalize hz : (x ||| y) = z
  have HZ := Lib.hid hz
  clear hz
  go_wp2_with fail
  exact bodyPost_ret (v := .tuple #[.int .u64 z, .bool true]) (by simp [results, Tryd.results13, go_sem]) rfl ⟨by rw [HZ.out], Below.refl _ _⟩

theorem rk_and (x y : Nat) (w : World) (hx : x < 18446744073709551616) (hy : y < 18446744073709551616) :
    Calls Tryd.prog 13 #[.string ⟨#[97, 110, 100]⟩, .int .u64 x, .int .u64 y] w fun e w' => e = .returned (.tuple #[.int .u64 (bits .and .u64 ((x : Int)) ((y : Int))), .bool true]) ∧ Below w.heap.size w w' := by
  have hv : bits .and .u64 (x : Int) (y : Int) = ((x &&& y : Nat) : Int) := u64_and_nat x y hx hy
  rw [hv]
  clear hv
  go_enter Tryd.func13, Tryd.ntmps13
  go_wp2_with fail
  refine (rbitand_any x y _ hx hy).mono ?_; rintro e w' ⟨rfl, rfl⟩
  generalize hz : (x &&& y) = z
  have HZ := Lib.hid hz
  clear hz
  go_wp2_with fail
  exact bodyPost_ret (v := .tuple #[.int .u64 z, .bool true]) (by simp [results, Tryd.results13, go_sem]) rfl ⟨by rw [HZ.out], Below.refl _ _⟩

theorem rk_andi (x y : Nat) (w : World) (hx : x < 18446744073709551616) (hy : y < 18446744073709551616) :
    Calls Tryd.prog 13 #[.string ⟨#[97, 110, 100, 105]⟩, .int .u64 x, .int .u64 y] w fun e w' => e = .returned (.tuple #[.int .u64 (bits .and .u64 ((x : Int)) ((y : Int))), .bool true]) ∧ Below w.heap.size w w' := by
  have hv : bits .and .u64 (x : Int) (y : Int) = ((x &&& y : Nat) : Int) := u64_and_nat x y hx hy
  rw [hv]
  clear hv
  go_enter Tryd.func13, Tryd.ntmps13
  go_wp2_with fail
  refine (rbitand_any x y _ hx hy).mono ?_; rintro e w' ⟨rfl, rfl⟩
  generalize hz : (x &&& y) = z
  have HZ := Lib.hid hz
  clear hz
  go_wp2_with fail
  exact bodyPost_ret (v := .tuple #[.int .u64 z, .bool true]) (by simp [results, Tryd.results13, go_sem]) rfl ⟨by rw [HZ.out], Below.refl _ _⟩

theorem rk_srl (x y : Nat) (w : World) (hx : x < 18446744073709551616) (hy : y < 18446744073709551616) :
    Calls Tryd.prog 13 #[.string ⟨#[115, 114, 108]⟩, .int .u64 x, .int .u64 y] w fun e w' => e = .returned (.tuple #[.int .u64 ((x : Int) / 2 ^ ((y : Int) % 64).toNat), .bool true]) ∧ Below w.heap.size w w' := by
  have e64 : ((y : Int) % 64) = ((y % 64 : Nat) : Int) := rfl
  have t64 : ((y : Int) % 64).toNat = y % 64 := by omega
  have E := Lib.hid e64
  have T := Lib.hid t64
  clear e64 t64
  have hv : ((x : Int) / 2 ^ ((y : Int) % 64).toNat : Int) = ((x / 2 ^ (y % 64) : Nat) : Int) := by rw [T.out, ediv_nat]
  rw [hv]
  clear hv
  go_enter Tryd.func13, Tryd.ntmps13
  go_wp2_with fail
  rw [E.out]
  refine (rdown0_any x (y % 64) _ hx (by omega)).mono ?_; rintro e w' ⟨rfl, rfl⟩
  generalize hz : x / 2 ^ (y % 64) = z
  have HZ := Lib.hid hz
  clear hz
  go_wp2_with fail
  exact bodyPost_ret (v := .tuple #[.int .u64 z, .bool true]) (by simp [results, Tryd.results13, go_sem]) rfl ⟨by rw [HZ.out], Below.refl _ _⟩

theorem rk_srli (x y : Nat) (w : World) (hx : x < 18446744073709551616) (hy : y < 18446744073709551616) :
    Calls Tryd.prog 13 #[.string ⟨#[115, 114, 108, 105]⟩, .int .u64 x, .int .u64 y] w fun e w' => e = .returned (.tuple #[.int .u64 ((x : Int) / 2 ^ ((y : Int) % 64).toNat), .bool true]) ∧ Below w.heap.size w w' := by
  have e64 : ((y : Int) % 64) = ((y % 64 : Nat) : Int) := rfl
  have t64 : ((y : Int) % 64).toNat = y % 64 := by omega
  have E := Lib.hid e64
  have T := Lib.hid t64
  clear e64 t64
  have hv : ((x : Int) / 2 ^ ((y : Int) % 64).toNat : Int) = ((x / 2 ^ (y % 64) : Nat) : Int) := by rw [T.out, ediv_nat]
  rw [hv]
  clear hv
  go_enter Tryd.func13, Tryd.ntmps13
  go_wp2_with fail
  rw [E.out]
  refine (rdown0_any x (y % 64) _ hx (by omega)).mono ?_; rintro e w' ⟨rfl, rfl⟩
  generalize hz : x / 2 ^ (y % 64) = z
  have HZ := Lib.hid hz
  clear hz
  go_wp2_with fail
  exact bodyPost_ret (v := .tuple #[.int .u64 z, .bool true]) (by simp [results, Tryd.results13, go_sem]) rfl ⟨by rw [HZ.out], Below.refl _ _⟩

theorem rk_sra (x y : Nat) (w : World) (hx : x < 18446744073709551616) (hy : y < 18446744073709551616) :
    Calls Tryd.prog 13 #[.string ⟨#[115, 114, 97]⟩, .int .u64 x, .int .u64 y] w fun e w' => e = .returned (.tuple #[.int .u64 (IntKind.u64.wrap (wrap64 ((x : Int)) / 2 ^ ((y : Int) % 64).toNat)), .bool true]) ∧ Below w.heap.size w w' := by
  have e64 : ((y : Int) % 64) = ((y % 64 : Nat) : Int) := rfl
  have t64 : ((y : Int) % 64).toNat = y % 64 := by omega
  have E := Lib.hid e64
  have T := Lib.hid t64
  clear e64 t64
  rcases Nat.lt_or_ge x 9223372036854775808 with h | h
  · skip
    have hv : (IntKind.u64.wrap (wrap64 ((x : Int)) / 2 ^ ((y : Int) % 64).toNat) : Int) = ((x / 2 ^ (y % 64) : Nat) : Int) := by rw [T.out]; exact sar_low x (y % 64) h
    rw [hv]
    clear hv
    have hc : ((x : Int) / 9223372036854775808) = 0 := by omega
    have HC := Lib.hid hc
    have HH := Lib.hid h
    clear hc h
    go_enter Tryd.func13, Tryd.ntmps13
    go_wp2_with fail
    rw [E.out, HC.out]
    refine (rdown0_any x (y % 64) _ hx (by omega)).mono ?_; rintro e w' ⟨rfl, rfl⟩
    generalize hz : ((x / 2 ^ (y % 64) : Nat) : Int) = z
    have HZ := Lib.hid hz
    clear hz
    go_wp2_with fail
    exact bodyPost_ret (v := .tuple #[.int .u64 z, .bool true]) (by simp [results, Tryd.results13, go_sem]) rfl ⟨by rw [HZ.out], Below.refl _ _⟩
  · skip
    have hv : (IntKind.u64.wrap (wrap64 ((x : Int)) / 2 ^ ((y : Int) % 64).toNat) : Int) = IntKind.u64.wrap (wrap64 (x : Int) / 2 ^ (y % 64)) := by rw [T.out]
    rw [hv]
    clear hv
    have hc : ((x : Int) / 9223372036854775808) = 1 := by omega
    have HC := Lib.hid hc
    have HH := Lib.hid h
    clear hc h
    go_enter Tryd.func13, Tryd.ntmps13
    go_wp2_with fail
    rw [E.out, HC.out]
    refine (rdown1_any x (y % 64) _ hx HH.out (by omega)).mono ?_; rintro e w' ⟨rfl, rfl⟩
    generalize hz : IntKind.u64.wrap (wrap64 (x : Int) / 2 ^ (y % 64)) = z
    have HZ := Lib.hid hz
    clear hz
    go_wp2_with fail
    exact bodyPost_ret (v := .tuple #[.int .u64 z, .bool true]) (by simp [results, Tryd.results13, go_sem]) rfl ⟨by rw [HZ.out], Below.refl _ _⟩

theorem rk_srai (x y : Nat) (w : World) (hx : x < 18446744073709551616) (hy : y < 18446744073709551616) :
    Calls Tryd.prog 13 #[.string ⟨#[115, 114, 97, 105]⟩, .int .u64 x, .int .u64 y] w fun e w' => e = .returned (.tuple #[.int .u64 (IntKind.u64.wrap (wrap64 ((x : Int)) / 2 ^ ((y : Int) % 64).toNat)), .bool true]) ∧ Below w.heap.size w w' := by
  have e64 : ((y : Int) % 64) = ((y % 64 : Nat) : Int) := rfl
  have t64 : ((y : Int) % 64).toNat = y % 64 := by omega
  have E := Lib.hid e64
  have T := Lib.hid t64
  clear e64 t64
  rcases Nat.lt_or_ge x 9223372036854775808 with h | h
  · skip
    have hv : (IntKind.u64.wrap (wrap64 ((x : Int)) / 2 ^ ((y : Int) % 64).toNat) : Int) = ((x / 2 ^ (y % 64) : Nat) : Int) := by rw [T.out]; exact sar_low x (y % 64) h
    rw [hv]
    clear hv
    have hc : ((x : Int) / 9223372036854775808) = 0 := by omega
    have HC := Lib.hid hc
    have HH := Lib.hid h
    clear hc h
    go_enter Tryd.func13, Tryd.ntmps13
    go_wp2_with fail
    rw [E.out, HC.out]
    refine (rdown0_any x (y % 64) _ hx (by omega)).mono ?_; rintro e w' ⟨rfl, rfl⟩
    generalize hz : ((x / 2 ^ (y % 64) : Nat) : Int) = z
    have HZ := Lib.hid hz
    clear hz
    go_wp2_with fail
    exact bodyPost_ret (v := .tuple #[.int .u64 z, .bool true]) (by simp [results, Tryd.results13, go_sem]) rfl ⟨by rw [HZ.out], Below.refl _ _⟩
  · skip
    have hv : (IntKind.u64.wrap (wrap64 ((x : Int)) / 2 ^ ((y : Int) % 64).toNat) : Int) = IntKind.u64.wrap (wrap64 (x : Int) / 2 ^ (y % 64)) := by rw [T.out]
    rw [hv]
    clear hv
    have hc : ((x : Int) / 9223372036854775808) = 1 := by omega
    have HC := Lib.hid hc
    have HH := Lib.hid h
    clear hc h
    go_enter Tryd.func13, Tryd.ntmps13
    go_wp2_with fail
    rw [E.out, HC.out]
    refine (rdown1_any x (y % 64) _ hx HH.out (by omega)).mono ?_; rintro e w' ⟨rfl, rfl⟩
    generalize hz : IntKind.u64.wrap (wrap64 (x : Int) / 2 ^ (y % 64)) = z
    have HZ := Lib.hid hz
    clear hz
    go_wp2_with fail
    exact bodyPost_ret (v := .tuple #[.int .u64 z, .bool true]) (by simp [results, Tryd.results13, go_sem]) rfl ⟨by rw [HZ.out], Below.refl _ _⟩

theorem rm_mul (x y : Nat) (w : World) (hx : x < 18446744073709551616) (hy : y < 18446744073709551616) :
    Calls Tryd.prog 29 #[.string ⟨#[109, 117, 108]⟩, .int .u64 x, .int .u64 y] w fun e w' => e = .returned (.tuple #[.int .u64 (IntKind.u64.wrap ((x : Int) * (y : Int))), .bool true]) ∧ Below w.heap.size w w' := by
  go_enter Tryd.func29, Tryd.ntmps29
  go_wp2_with fail
  exact bodyPost_ret (v := .tuple #[.int .u64 (IntKind.u64.wrap ((x : Int) * (y : Int))), .bool true]) (by simp [results, Tryd.results29, go_sem]) rfl ⟨rfl, Below.refl _ _⟩

theorem rm_mulh (x y : Nat) (w : World) (hx : x < 18446744073709551616) (hy : y < 18446744073709551616) :
    Calls Tryd.prog 29 #[.string ⟨#[109, 117, 108, 104]⟩, .int .u64 x, .int .u64 y] w fun e w' => e = .returned (.tuple #[.int .u64 (highZ ((x : Int)) ((y : Int)) true true), .bool true]) ∧ Below w.heap.size w w' := by
  go_enter Tryd.func29, Tryd.ntmps29
  go_wp2_with fail
  refine (rhigh_any x y true true _ (by omega) (by omega) (by omega) (by omega)).mono ?_; rintro e w' ⟨rfl, hw⟩
  obtain rfl := hw
  generalize hz : highZ ((x : Int)) ((y : Int)) true true = z
  have HZ := Lib.hid hz
  clear hz
  go_wp2_with fail
  exact bodyPost_ret (v := .tuple #[.int .u64 z, .bool true]) (by simp [results, Tryd.results29, go_sem]) rfl ⟨by rw [HZ.out], Below.refl _ _⟩

theorem rm_mulhsu (x y : Nat) (w : World) (hx : x < 18446744073709551616) (hy : y < 18446744073709551616) :
    Calls Tryd.prog 29 #[.string ⟨#[109, 117, 108, 104, 115, 117]⟩, .int .u64 x, .int .u64 y] w fun e w' => e = .returned (.tuple #[.int .u64 (highZ ((x : Int)) ((y : Int)) true false), .bool true]) ∧ Below w.heap.size w w' := by
  go_enter Tryd.func29, Tryd.ntmps29
  go_wp2_with fail
  refine (rhigh_any x y true false _ (by omega) (by omega) (by omega) (by omega)).mono ?_; rintro e w' ⟨rfl, hw⟩
  obtain rfl := hw
  generalize hz : highZ ((x : Int)) ((y : Int)) true false = z
  have HZ := Lib.hid hz
  clear hz
  go_wp2_with fail
  exact bodyPost_ret (v := .tuple #[.int .u64 z, .bool true]) (by simp [results, Tryd.results29, go_sem]) rfl ⟨by rw [HZ.out], Below.refl _ _⟩

theorem rm_mulhu (x y : Nat) (w : World) (hx : x < 18446744073709551616) (hy : y < 18446744073709551616) :
    Calls Tryd.prog 29 #[.string ⟨#[109, 117, 108, 104, 117]⟩, .int .u64 x, .int .u64 y] w fun e w' => e = .returned (.tuple #[.int .u64 (highZ ((x : Int)) ((y : Int)) false false), .bool true]) ∧ Below w.heap.size w w' := by
  go_enter Tryd.func29, Tryd.ntmps29
  go_wp2_with fail
  refine (rhigh_any x y false false _ (by omega) (by omega) (by omega) (by omega)).mono ?_; rintro e w' ⟨rfl, hw⟩
  obtain rfl := hw
  generalize hz : highZ ((x : Int)) ((y : Int)) false false = z
  have HZ := Lib.hid hz
  clear hz
  go_wp2_with fail
  exact bodyPost_ret (v := .tuple #[.int .u64 z, .bool true]) (by simp [results, Tryd.results29, go_sem]) rfl ⟨by rw [HZ.out], Below.refl _ _⟩

theorem rm_div (x y : Nat) (w : World) (hx : x < 18446744073709551616) (hy : y < 18446744073709551616) :
    Calls Tryd.prog 29 #[.string ⟨#[100, 105, 118]⟩, .int .u64 x, .int .u64 y] w fun e w' => e = .returned (.tuple #[.int .u64 (quotZ ((x : Int)) ((y : Int)) true), .bool true]) ∧ Below w.heap.size w w' := by
  go_enter Tryd.func29, Tryd.ntmps29
  go_wp2_with fail
  refine (rquot_any x y true _ (by omega) (by omega) (by omega) (by omega)).mono ?_; rintro e w' ⟨rfl, hw⟩
  obtain rfl := hw
  generalize hz : quotZ ((x : Int)) ((y : Int)) true = z
  have HZ := Lib.hid hz
  clear hz
  go_wp2_with fail
  exact bodyPost_ret (v := .tuple #[.int .u64 z, .bool true]) (by simp [results, Tryd.results29, go_sem]) rfl ⟨by rw [HZ.out], Below.refl _ _⟩

theorem rm_divu (x y : Nat) (w : World) (hx : x < 18446744073709551616) (hy : y < 18446744073709551616) :
    Calls Tryd.prog 29 #[.string ⟨#[100, 105, 118, 117]⟩, .int .u64 x, .int .u64 y] w fun e w' => e = .returned (.tuple #[.int .u64 (quotZ ((x : Int)) ((y : Int)) false), .bool true]) ∧ Below w.heap.size w w' := by
  go_enter Tryd.func29, Tryd.ntmps29
  go_wp2_with fail
  refine (rquot_any x y false _ (by omega) (by omega) (by omega) (by omega)).mono ?_; rintro e w' ⟨rfl, hw⟩
  obtain rfl := hw
  generalize hz : quotZ ((x : Int)) ((y : Int)) false = z
  have HZ := Lib.hid hz
  clear hz
  go_wp2_with fail
  exact bodyPost_ret (v := .tuple #[.int .u64 z, .bool true]) (by simp [results, Tryd.results29, go_sem]) rfl ⟨by rw [HZ.out], Below.refl _ _⟩

theorem rm_rem (x y : Nat) (w : World) (hx : x < 18446744073709551616) (hy : y < 18446744073709551616) :
    Calls Tryd.prog 29 #[.string ⟨#[114, 101, 109]⟩, .int .u64 x, .int .u64 y] w fun e w' => e = .returned (.tuple #[.int .u64 (restZ ((x : Int)) ((y : Int)) true), .bool true]) ∧ Below w.heap.size w w' := by
  go_enter Tryd.func29, Tryd.ntmps29
  go_wp2_with fail
  refine (rrest_any x y true _ (by omega) (by omega) (by omega) (by omega)).mono ?_; rintro e w' ⟨rfl, hw⟩
  obtain rfl := hw
  generalize hz : restZ ((x : Int)) ((y : Int)) true = z
  have HZ := Lib.hid hz
  clear hz
  go_wp2_with fail
  exact bodyPost_ret (v := .tuple #[.int .u64 z, .bool true]) (by simp [results, Tryd.results29, go_sem]) rfl ⟨by rw [HZ.out], Below.refl _ _⟩

theorem rm_remu (x y : Nat) (w : World) (hx : x < 18446744073709551616) (hy : y < 18446744073709551616) :
    Calls Tryd.prog 29 #[.string ⟨#[114, 101, 109, 117]⟩, .int .u64 x, .int .u64 y] w fun e w' => e = .returned (.tuple #[.int .u64 (restZ ((x : Int)) ((y : Int)) false), .bool true]) ∧ Below w.heap.size w w' := by
  go_enter Tryd.func29, Tryd.ntmps29
  go_wp2_with fail
  refine (rrest_any x y false _ (by omega) (by omega) (by omega) (by omega)).mono ?_; rintro e w' ⟨rfl, hw⟩
  obtain rfl := hw
  generalize hz : restZ ((x : Int)) ((y : Int)) false = z
  have HZ := Lib.hid hz
  clear hz
  go_wp2_with fail
  exact bodyPost_ret (v := .tuple #[.int .u64 z, .bool true]) (by simp [results, Tryd.results29, go_sem]) rfl ⟨by rw [HZ.out], Below.refl _ _⟩

theorem rk_mul (x y : Nat) (w : World) (hx : x < 18446744073709551616) (hy : y < 18446744073709551616) :
    Calls Tryd.prog 13 #[.string ⟨#[109, 117, 108]⟩, .int .u64 x, .int .u64 y] w fun e w' => e = .returned (.tuple #[.int .u64 (IntKind.u64.wrap ((x : Int) * (y : Int))), .bool true]) ∧ Below w.heap.size w w' := by
  have hc := rm_mul x y w hx hy
  generalize (IntKind.u64.wrap ((x : Int) * (y : Int)) : Int) = z at hc ⊢
  have HC := Lib.hid hc
  clear hc
  go_enter Tryd.func13, Tryd.ntmps13
  go_wp2_with fail
  refine HC.out.mono ?_; rintro e w' ⟨rfl, hb⟩
  have HB := Lib.hid hb
  clear hb
  go_wp2_with fail
  exact bodyPost_ret (v := .tuple #[.int .u64 z, .bool true]) (by simp [results, Tryd.results13, go_sem]) rfl ⟨rfl, HB.out⟩

theorem rk_mulh (x y : Nat) (w : World) (hx : x < 18446744073709551616) (hy : y < 18446744073709551616) :
    Calls Tryd.prog 13 #[.string ⟨#[109, 117, 108, 104]⟩, .int .u64 x, .int .u64 y] w fun e w' => e = .returned (.tuple #[.int .u64 (highZ ((x : Int)) ((y : Int)) true true), .bool true]) ∧ Below w.heap.size w w' := by
  have hc := rm_mulh x y w hx hy
  generalize (highZ ((x : Int)) ((y : Int)) true true : Int) = z at hc ⊢
  have HC := Lib.hid hc
  clear hc
  go_enter Tryd.func13, Tryd.ntmps13
  go_wp2_with fail
  refine HC.out.mono ?_; rintro e w' ⟨rfl, hb⟩
  have HB := Lib.hid hb
  clear hb
  go_wp2_with fail
  exact bodyPost_ret (v := .tuple #[.int .u64 z, .bool true]) (by simp [results, Tryd.results13, go_sem]) rfl ⟨rfl, HB.out⟩

theorem rk_mulhsu (x y : Nat) (w : World) (hx : x < 18446744073709551616) (hy : y < 18446744073709551616) :
    Calls Tryd.prog 13 #[.string ⟨#[109, 117, 108, 104, 115, 117]⟩, .int .u64 x, .int .u64 y] w fun e w' => e = .returned (.tuple #[.int .u64 (highZ ((x : Int)) ((y : Int)) true false), .bool true]) ∧ Below w.heap.size w w' := by
  have hc := rm_mulhsu x y w hx hy
  generalize (highZ ((x : Int)) ((y : Int)) true false : Int) = z at hc ⊢
  have HC := Lib.hid hc
  clear hc
  go_enter Tryd.func13, Tryd.ntmps13
  go_wp2_with fail
  refine HC.out.mono ?_; rintro e w' ⟨rfl, hb⟩
  have HB := Lib.hid hb
  clear hb
  go_wp2_with fail
  exact bodyPost_ret (v := .tuple #[.int .u64 z, .bool true]) (by simp [results, Tryd.results13, go_sem]) rfl ⟨rfl, HB.out⟩

theorem rk_mulhu (x y : Nat) (w : World) (hx : x < 18446744073709551616) (hy : y < 18446744073709551616) :
    Calls Tryd.prog 13 #[.string ⟨#[109, 117, 108, 104, 117]⟩, .int .u64 x, .int .u64 y] w fun e w' => e = .returned (.tuple #[.int .u64 (highZ ((x : Int)) ((y : Int)) false false), .bool true]) ∧ Below w.heap.size w w' := by
  have hc := rm_mulhu x y w hx hy
  generalize (highZ ((x : Int)) ((y : Int)) false false : Int) = z at hc ⊢
  have HC := Lib.hid hc
  clear hc
  go_enter Tryd.func13, Tryd.ntmps13
  go_wp2_with fail
  refine HC.out.mono ?_; rintro e w' ⟨rfl, hb⟩
  have HB := Lib.hid hb
  clear hb
  go_wp2_with fail
  exact bodyPost_ret (v := .tuple #[.int .u64 z, .bool true]) (by simp [results, Tryd.results13, go_sem]) rfl ⟨rfl, HB.out⟩

theorem rk_div (x y : Nat) (w : World) (hx : x < 18446744073709551616) (hy : y < 18446744073709551616) :
    Calls Tryd.prog 13 #[.string ⟨#[100, 105, 118]⟩, .int .u64 x, .int .u64 y] w fun e w' => e = .returned (.tuple #[.int .u64 (quotZ ((x : Int)) ((y : Int)) true), .bool true]) ∧ Below w.heap.size w w' := by
  have hc := rm_div x y w hx hy
  generalize (quotZ ((x : Int)) ((y : Int)) true : Int) = z at hc ⊢
  have HC := Lib.hid hc
  clear hc
  go_enter Tryd.func13, Tryd.ntmps13
  go_wp2_with fail
  refine HC.out.mono ?_; rintro e w' ⟨rfl, hb⟩
  have HB := Lib.hid hb
  clear hb
  go_wp2_with fail
  exact bodyPost_ret (v := .tuple #[.int .u64 z, .bool true]) (by simp [results, Tryd.results13, go_sem]) rfl ⟨rfl, HB.out⟩

theorem rk_divu (x y : Nat) (w : World) (hx : x < 18446744073709551616) (hy : y < 18446744073709551616) :
    Calls Tryd.prog 13 #[.string ⟨#[100, 105, 118, 117]⟩, .int .u64 x, .int .u64 y] w fun e w' => e = .returned (.tuple #[.int .u64 (quotZ ((x : Int)) ((y : Int)) false), .bool true]) ∧ Below w.heap.size w w' := by
  have hc := rm_divu x y w hx hy
  generalize (quotZ ((x : Int)) ((y : Int)) false : Int) = z at hc ⊢
  have HC := Lib.hid hc
  clear hc
  go_enter Tryd.func13, Tryd.ntmps13
  go_wp2_with fail
  refine HC.out.mono ?_; rintro e w' ⟨rfl, hb⟩
  have HB := Lib.hid hb
  clear hb
  go_wp2_with fail
  exact bodyPost_ret (v := .tuple #[.int .u64 z, .bool true]) (by simp [results, Tryd.results13, go_sem]) rfl ⟨rfl, HB.out⟩

theorem rk_rem (x y : Nat) (w : World) (hx : x < 18446744073709551616) (hy : y < 18446744073709551616) :
    Calls Tryd.prog 13 #[.string ⟨#[114, 101, 109]⟩, .int .u64 x, .int .u64 y] w fun e w' => e = .returned (.tuple #[.int .u64 (restZ ((x : Int)) ((y : Int)) true), .bool true]) ∧ Below w.heap.size w w' := by
  have hc := rm_rem x y w hx hy
  generalize (restZ ((x : Int)) ((y : Int)) true : Int) = z at hc ⊢
  have HC := Lib.hid hc
  clear hc
  go_enter Tryd.func13, Tryd.ntmps13
  go_wp2_with fail
  refine HC.out.mono ?_; rintro e w' ⟨rfl, hb⟩
  have HB := Lib.hid hb
  clear hb
  go_wp2_with fail
  exact bodyPost_ret (v := .tuple #[.int .u64 z, .bool true]) (by simp [results, Tryd.results13, go_sem]) rfl ⟨rfl, HB.out⟩

theorem rk_remu (x y : Nat) (w : World) (hx : x < 18446744073709551616) (hy : y < 18446744073709551616) :
    Calls Tryd.prog 13 #[.string ⟨#[114, 101, 109, 117]⟩, .int .u64 x, .int .u64 y] w fun e w' => e = .returned (.tuple #[.int .u64 (restZ ((x : Int)) ((y : Int)) false), .bool true]) ∧ Below w.heap.size w w' := by
  have hc := rm_remu x y w hx hy
  generalize (restZ ((x : Int)) ((y : Int)) false : Int) = z at hc ⊢
  have HC := Lib.hid hc
  clear hc
  go_enter Tryd.func13, Tryd.ntmps13
  go_wp2_with fail
  refine HC.out.mono ?_; rintro e w' ⟨rfl, hb⟩
  have HB := Lib.hid hb
  clear hb
  go_wp2_with fail
  exact bodyPost_ret (v := .tuple #[.int .u64 z, .bool true]) (by simp [results, Tryd.results13, go_sem]) rfl ⟨rfl, HB.out⟩

end Go.Proofs.YtoijhhacgafblabDoor
