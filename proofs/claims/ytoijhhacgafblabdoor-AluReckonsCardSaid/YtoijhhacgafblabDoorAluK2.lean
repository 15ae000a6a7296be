/- The document's Reckon, at the names of 32 bits. -/
import Derived.Test.YtoijhhacgafblabDoorAluK
namespace Go.Proofs.YtoijhhacgafblabDoor
set_option linter.unusedVariables false
set_option linter.unusedSimpArgs false
open Go.Joins Go.ChangeShapes Go.WideShapes Go.ChangeAt Go.RowKit

set_option maxRecDepth 8000 in
theorem rs_addw (x y : Nat) (w : World) (hx : x < 18446744073709551616) (hy : y < 18446744073709551616) :
    Calls Tryd.prog 60 #[.string ⟨#[97, 100, 100, 119]⟩, .int .u64 x, .int .u64 y] w fun e w' => e = .returned (.tuple #[.int .u64 (signZ (IntKind.u64.wrap ((signZ ((x : Int)) 32) + (signZ ((y : Int)) 32))) 32), .bool true]) ∧ Below w.heap.size w w' := by
  obtain ⟨u, hu⟩ : ∃ u : Nat, x % 4294967296 = u := ⟨_, rfl⟩
  obtain ⟨v, hv⟩ : ∃ v : Nat, y % 4294967296 = v := ⟨_, rfl⟩
  have hu' : u < 4294967296 := by omega
  have hv' : v < 4294967296 := by omega
  have ex : ((x : Int) % 4294967296) = (u : Int) := by omega
  have ey : ((y : Int) % 4294967296) = (v : Int) := by omega
  have sx : signZ (x : Int) 32 = signZ (u : Int) 32 := sign_congr _ _ (by omega) (by omega) (by omega)
  have sy : signZ (y : Int) 32 = signZ (v : Int) 32 := sign_congr _ _ (by omega) (by omega) (by omega)
  have bx : bitsZ (x : Int) 0 32 = (u : Int) := by unfold bitsZ bitsN; rw [if_neg (by omega), show (0 : Int).toNat = 0 from rfl, show (32 : Int).toNat = 32 from rfl, Int.toNat_natCast, Nat.pow_zero, Nat.div_one, show (2 : Nat) ^ 32 = 4294967296 from rfl, hu]
  have by' : bitsZ (y : Int) 0 32 = (v : Int) := by unfold bitsZ bitsN; rw [if_neg (by omega), show (0 : Int).toNat = 0 from rfl, show (32 : Int).toNat = 32 from rfl, Int.toNat_natCast, Nat.pow_zero, Nat.div_one, show (2 : Nat) ^ 32 = 4294967296 from rfl, hv]
  have s32 : (signZ (v : Int) 32 % 32).toNat = y % 32 := by have := sign_low (v : Int) (by omega); omega
  have b32 : ((v : Int) % 32).toNat = y % 32 := by omega
  have y32 : ((y : Int) % 32) = ((y % 32 : Nat) : Int) := rfl
  have Y32 := Lib.hid y32
  have EX := Lib.hid ex
  have EY := Lib.hid ey
  clear y32 ex ey
  have hF : (signZ (IntKind.u64.wrap ((signZ ((x : Int)) 32) + (signZ ((y : Int)) 32))) 32 : Int) = signZ (IntKind.u64.wrap ((u : Int) + (v : Int))) 32 := by rw [sx, sy]; exact short_add _ _ (by omega) (by omega)
  rw [hF]
  have hW : Inw (IntKind.u64.wrap ((u : Int) + (v : Int))) := wrap_u64_in _
  clear hF sx sy bx by' s32 b32 hu hv
  have HW := Lib.hid hW
  clear hW
  go_enter Tryd.func60, Tryd.ntmps60
  go_wp2_with fail
  rw [EX.out, EY.out]
  refine (rsign_any (u : Int) 32 _ (by omega) (by omega)).mono ?_; rintro e w' ⟨rfl, rfl⟩
  generalize hs : signZ (u : Int) 32 = s
  have HS := Lib.hid hs
  clear hs
  go_wp2_with fail
  refine (rsign_any (v : Int) 32 _ (by omega) (by omega)).mono ?_; rintro e w' ⟨rfl, rfl⟩
  generalize ht : signZ (v : Int) 32 = t
  have HT := Lib.hid ht
  clear ht
  go_wp2_with fail
  refine (rsign_any ((u : Int) + (v : Int)) 32 _ ((show Inw ((u : Int) + (v : Int)) from ⟨by omega, by omega⟩)).1 ((show Inw ((u : Int) + (v : Int)) from ⟨by omega, by omega⟩)).2).mono ?_; rintro e w' ⟨rfl, rfl⟩
  generalize hz : signZ ((u : Int) + (v : Int)) 32 = z
  have HZ := Lib.hid hz
  clear hz
  go_wp2_with fail
  exact bodyPost_ret (v := .tuple #[.int .u64 z, .bool true]) (by simp [results, Tryd.results60, go_sem]) rfl ⟨by rw [← HZ.out]; rw [show IntKind.u64.wrap ((u : Int) + (v : Int)) = (u : Int) + (v : Int) by rw [IntKind.wrap_u64]; omega], Below.refl _ _⟩

set_option maxRecDepth 8000 in
theorem rs_addiw (x y : Nat) (w : World) (hx : x < 18446744073709551616) (hy : y < 18446744073709551616) :
    Calls Tryd.prog 60 #[.string ⟨#[97, 100, 100, 105, 119]⟩, .int .u64 x, .int .u64 y] w fun e w' => e = .returned (.tuple #[.int .u64 (signZ (IntKind.u64.wrap ((signZ ((x : Int)) 32) + (signZ ((y : Int)) 32))) 32), .bool true]) ∧ Below w.heap.size w w' := by
  obtain ⟨u, hu⟩ : ∃ u : Nat, x % 4294967296 = u := ⟨_, rfl⟩
  obtain ⟨v, hv⟩ : ∃ v : Nat, y % 4294967296 = v := ⟨_, rfl⟩
  have hu' : u < 4294967296 := by omega
  have hv' : v < 4294967296 := by omega
  have ex : ((x : Int) % 4294967296) = (u : Int) := by omega
  have ey : ((y : Int) % 4294967296) = (v : Int) := by omega
  have sx : signZ (x : Int) 32 = signZ (u : Int) 32 := sign_congr _ _ (by omega) (by omega) (by omega)
  have sy : signZ (y : Int) 32 = signZ (v : Int) 32 := sign_congr _ _ (by omega) (by omega) (by omega)
  have bx : bitsZ (x : Int) 0 32 = (u : Int) := by unfold bitsZ bitsN; rw [if_neg (by omega), show (0 : Int).toNat = 0 from rfl, show (32 : Int).toNat = 32 from rfl, Int.toNat_natCast, Nat.pow_zero, Nat.div_one, show (2 : Nat) ^ 32 = 4294967296 from rfl, hu]
  have by' : bitsZ (y : Int) 0 32 = (v : Int) := by unfold bitsZ bitsN; rw [if_neg (by omega), show (0 : Int).toNat = 0 from rfl, show (32 : Int).toNat = 32 from rfl, Int.toNat_natCast, Nat.pow_zero, Nat.div_one, show (2 : Nat) ^ 32 = 4294967296 from rfl, hv]
  have s32 : (signZ (v : Int) 32 % 32).toNat = y % 32 := by have := sign_low (v : Int) (by omega); omega
  have b32 : ((v : Int) % 32).toNat = y % 32 := by omega
  have y32 : ((y : Int) % 32) = ((y % 32 : Nat) : Int) := rfl
  have Y32 := Lib.hid y32
  have EX := Lib.hid ex
  have EY := Lib.hid ey
  clear y32 ex ey
  have hF : (signZ (IntKind.u64.wrap ((signZ ((x : Int)) 32) + (signZ ((y : Int)) 32))) 32 : Int) = signZ (IntKind.u64.wrap ((u : Int) + (v : Int))) 32 := by rw [sx, sy]; exact short_add _ _ (by omega) (by omega)
  rw [hF]
  have hW : Inw (IntKind.u64.wrap ((u : Int) + (v : Int))) := wrap_u64_in _
  clear hF sx sy bx by' s32 b32 hu hv
  have HW := Lib.hid hW
  clear hW
  go_enter Tryd.func60, Tryd.ntmps60
  go_wp2_with fail
  rw [EX.out, EY.out]
  refine (rsign_any (u : Int) 32 _ (by omega) (by omega)).mono ?_; rintro e w' ⟨rfl, rfl⟩
  generalize hs : signZ (u : Int) 32 = s
  have HS := Lib.hid hs
  clear hs
  go_wp2_with fail
  refine (rsign_any (v : Int) 32 _ (by omega) (by omega)).mono ?_; rintro e w' ⟨rfl, rfl⟩
  generalize ht : signZ (v : Int) 32 = t
  have HT := Lib.hid ht
  clear ht
  go_wp2_with fail
  refine (rsign_any ((u : Int) + (v : Int)) 32 _ ((show Inw ((u : Int) + (v : Int)) from ⟨by omega, by omega⟩)).1 ((show Inw ((u : Int) + (v : Int)) from ⟨by omega, by omega⟩)).2).mono ?_; rintro e w' ⟨rfl, rfl⟩
  generalize hz : signZ ((u : Int) + (v : Int)) 32 = z
  have HZ := Lib.hid hz
  clear hz
  go_wp2_with fail
  exact bodyPost_ret (v := .tuple #[.int .u64 z, .bool true]) (by simp [results, Tryd.results60, go_sem]) rfl ⟨by rw [← HZ.out]; rw [show IntKind.u64.wrap ((u : Int) + (v : Int)) = (u : Int) + (v : Int) by rw [IntKind.wrap_u64]; omega], Below.refl _ _⟩

set_option maxRecDepth 8000 in
theorem rs_subw (x y : Nat) (w : World) (hx : x < 18446744073709551616) (hy : y < 18446744073709551616) :
    Calls Tryd.prog 60 #[.string ⟨#[115, 117, 98, 119]⟩, .int .u64 x, .int .u64 y] w fun e w' => e = .returned (.tuple #[.int .u64 (signZ (IntKind.u64.wrap ((signZ ((x : Int)) 32) - (signZ ((y : Int)) 32))) 32), .bool true]) ∧ Below w.heap.size w w' := by
  obtain ⟨u, hu⟩ : ∃ u : Nat, x % 4294967296 = u := ⟨_, rfl⟩
  obtain ⟨v, hv⟩ : ∃ v : Nat, y % 4294967296 = v := ⟨_, rfl⟩
  have hu' : u < 4294967296 := by omega
  have hv' : v < 4294967296 := by omega
  have ex : ((x : Int) % 4294967296) = (u : Int) := by omega
  have ey : ((y : Int) % 4294967296) = (v : Int) := by omega
  have sx : signZ (x : Int) 32 = signZ (u : Int) 32 := sign_congr _ _ (by omega) (by omega) (by omega)
  have sy : signZ (y : Int) 32 = signZ (v : Int) 32 := sign_congr _ _ (by omega) (by omega) (by omega)
  have bx : bitsZ (x : Int) 0 32 = (u : Int) := by unfold bitsZ bitsN; rw [if_neg (by omega), show (0 : Int).toNat = 0 from rfl, show (32 : Int).toNat = 32 from rfl, Int.toNat_natCast, Nat.pow_zero, Nat.div_one, show (2 : Nat) ^ 32 = 4294967296 from rfl, hu]
  have by' : bitsZ (y : Int) 0 32 = (v : Int) := by unfold bitsZ bitsN; rw [if_neg (by omega), show (0 : Int).toNat = 0 from rfl, show (32 : Int).toNat = 32 from rfl, Int.toNat_natCast, Nat.pow_zero, Nat.div_one, show (2 : Nat) ^ 32 = 4294967296 from rfl, hv]
  have s32 : (signZ (v : Int) 32 % 32).toNat = y % 32 := by have := sign_low (v : Int) (by omega); omega
  have b32 : ((v : Int) % 32).toNat = y % 32 := by omega
  have y32 : ((y : Int) % 32) = ((y % 32 : Nat) : Int) := rfl
  have Y32 := Lib.hid y32
  have EX := Lib.hid ex
  have EY := Lib.hid ey
  clear y32 ex ey
  have hF : (signZ (IntKind.u64.wrap ((signZ ((x : Int)) 32) - (signZ ((y : Int)) 32))) 32 : Int) = signZ (IntKind.u64.wrap ((u : Int) - (v : Int))) 32 := by rw [sx, sy]; exact short_sub _ _ (by omega) (by omega)
  rw [hF]
  have hW : Inw (IntKind.u64.wrap ((u : Int) - (v : Int))) := wrap_u64_in _
  clear hF sx sy bx by' s32 b32 hu hv
  have HW := Lib.hid hW
  clear hW
  go_enter Tryd.func60, Tryd.ntmps60
  go_wp2_with fail
  rw [EX.out, EY.out]
  refine (rsign_any (u : Int) 32 _ (by omega) (by omega)).mono ?_; rintro e w' ⟨rfl, rfl⟩
  generalize hs : signZ (u : Int) 32 = s
  have HS := Lib.hid hs
  clear hs
  go_wp2_with fail
  refine (rsign_any (v : Int) 32 _ (by omega) (by omega)).mono ?_; rintro e w' ⟨rfl, rfl⟩
  generalize ht : signZ (v : Int) 32 = t
  have HT := Lib.hid ht
  clear ht
  go_wp2_with fail
  refine (rsign_any (IntKind.u64.wrap ((u : Int) - (v : Int))) 32 _ (wrap_u64_in _).1 (wrap_u64_in _).2).mono ?_; rintro e w' ⟨rfl, rfl⟩
  generalize hz : signZ (IntKind.u64.wrap ((u : Int) - (v : Int))) 32 = z
  have HZ := Lib.hid hz
  clear hz
  go_wp2_with fail
  exact bodyPost_ret (v := .tuple #[.int .u64 z, .bool true]) (by simp [results, Tryd.results60, go_sem]) rfl ⟨by rw [← HZ.out], Below.refl _ _⟩

set_option maxRecDepth 8000 in
theorem rs_mulw (x y : Nat) (w : World) (hx : x < 18446744073709551616) (hy : y < 18446744073709551616) :
    Calls Tryd.prog 60 #[.string ⟨#[109, 117, 108, 119]⟩, .int .u64 x, .int .u64 y] w fun e w' => e = .returned (.tuple #[.int .u64 (signZ (IntKind.u64.wrap ((signZ ((x : Int)) 32) * (signZ ((y : Int)) 32))) 32), .bool true]) ∧ Below w.heap.size w w' := by
  obtain ⟨u, hu⟩ : ∃ u : Nat, x % 4294967296 = u := ⟨_, rfl⟩
  obtain ⟨v, hv⟩ : ∃ v : Nat, y % 4294967296 = v := ⟨_, rfl⟩
  have hu' : u < 4294967296 := by omega
  have hv' : v < 4294967296 := by omega
  have ex : ((x : Int) % 4294967296) = (u : Int) := by omega
  have ey : ((y : Int) % 4294967296) = (v : Int) := by omega
  have sx : signZ (x : Int) 32 = signZ (u : Int) 32 := sign_congr _ _ (by omega) (by omega) (by omega)
  have sy : signZ (y : Int) 32 = signZ (v : Int) 32 := sign_congr _ _ (by omega) (by omega) (by omega)
  have bx : bitsZ (x : Int) 0 32 = (u : Int) := by unfold bitsZ bitsN; rw [if_neg (by omega), show (0 : Int).toNat = 0 from rfl, show (32 : Int).toNat = 32 from rfl, Int.toNat_natCast, Nat.pow_zero, Nat.div_one, show (2 : Nat) ^ 32 = 4294967296 from rfl, hu]
  have by' : bitsZ (y : Int) 0 32 = (v : Int) := by unfold bitsZ bitsN; rw [if_neg (by omega), show (0 : Int).toNat = 0 from rfl, show (32 : Int).toNat = 32 from rfl, Int.toNat_natCast, Nat.pow_zero, Nat.div_one, show (2 : Nat) ^ 32 = 4294967296 from rfl, hv]
  have s32 : (signZ (v : Int) 32 % 32).toNat = y % 32 := by have := sign_low (v : Int) (by omega); omega
  have b32 : ((v : Int) % 32).toNat = y % 32 := by omega
  have y32 : ((y : Int) % 32) = ((y % 32 : Nat) : Int) := rfl
  have Y32 := Lib.hid y32
  have EX := Lib.hid ex
  have EY := Lib.hid ey
  clear y32 ex ey
  have hF : (signZ (IntKind.u64.wrap ((signZ ((x : Int)) 32) * (signZ ((y : Int)) 32))) 32 : Int) = signZ (IntKind.u64.wrap ((u : Int) * (v : Int))) 32 := by rw [sx, sy]; exact short_mul _ _ (by omega) (by omega)
  rw [hF]
  have hW : Inw (IntKind.u64.wrap ((u : Int) * (v : Int))) := wrap_u64_in _
  clear hF sx sy bx by' s32 b32 hu hv
  have HW := Lib.hid hW
  clear hW
  go_enter Tryd.func60, Tryd.ntmps60
  go_wp2_with fail
  rw [EX.out, EY.out]
  refine (rsign_any (u : Int) 32 _ (by omega) (by omega)).mono ?_; rintro e w' ⟨rfl, rfl⟩
  generalize hs : signZ (u : Int) 32 = s
  have HS := Lib.hid hs
  clear hs
  go_wp2_with fail
  refine (rsign_any (v : Int) 32 _ (by omega) (by omega)).mono ?_; rintro e w' ⟨rfl, rfl⟩
  generalize ht : signZ (v : Int) 32 = t
  have HT := Lib.hid ht
  clear ht
  go_wp2_with fail
  refine (rsign_any (IntKind.u64.wrap ((u : Int) * (v : Int))) 32 _ (wrap_u64_in _).1 (wrap_u64_in _).2).mono ?_; rintro e w' ⟨rfl, rfl⟩
  generalize hz : signZ (IntKind.u64.wrap ((u : Int) * (v : Int))) 32 = z
  have HZ := Lib.hid hz
  clear hz
  go_wp2_with fail
  exact bodyPost_ret (v := .tuple #[.int .u64 z, .bool true]) (by simp [results, Tryd.results60, go_sem]) rfl ⟨by rw [← HZ.out], Below.refl _ _⟩

set_option maxRecDepth 8000 in
theorem rs_sllw (x y : Nat) (w : World) (hx : x < 18446744073709551616) (hy : y < 18446744073709551616) :
    Calls Tryd.prog 60 #[.string ⟨#[115, 108, 108, 119]⟩, .int .u64 x, .int .u64 y] w fun e w' => e = .returned (.tuple #[.int .u64 (signZ (IntKind.u64.wrap ((signZ ((x : Int)) 32) * 2 ^ ((signZ ((y : Int)) 32) % 32).toNat)) 32), .bool true]) ∧ Below w.heap.size w w' := by
  obtain ⟨u, hu⟩ : ∃ u : Nat, x % 4294967296 = u := ⟨_, rfl⟩
  obtain ⟨v, hv⟩ : ∃ v : Nat, y % 4294967296 = v := ⟨_, rfl⟩
  have hu' : u < 4294967296 := by omega
  have hv' : v < 4294967296 := by omega
  have ex : ((x : Int) % 4294967296) = (u : Int) := by omega
  have ey : ((y : Int) % 4294967296) = (v : Int) := by omega
  have sx : signZ (x : Int) 32 = signZ (u : Int) 32 := sign_congr _ _ (by omega) (by omega) (by omega)
  have sy : signZ (y : Int) 32 = signZ (v : Int) 32 := sign_congr _ _ (by omega) (by omega) (by omega)
  have bx : bitsZ (x : Int) 0 32 = (u : Int) := by unfold bitsZ bitsN; rw [if_neg (by omega), show (0 : Int).toNat = 0 from rfl, show (32 : Int).toNat = 32 from rfl, Int.toNat_natCast, Nat.pow_zero, Nat.div_one, show (2 : Nat) ^ 32 = 4294967296 from rfl, hu]
  have by' : bitsZ (y : Int) 0 32 = (v : Int) := by unfold bitsZ bitsN; rw [if_neg (by omega), show (0 : Int).toNat = 0 from rfl, show (32 : Int).toNat = 32 from rfl, Int.toNat_natCast, Nat.pow_zero, Nat.div_one, show (2 : Nat) ^ 32 = 4294967296 from rfl, hv]
  have s32 : (signZ (v : Int) 32 % 32).toNat = y % 32 := by have := sign_low (v : Int) (by omega); omega
  have b32 : ((v : Int) % 32).toNat = y % 32 := by omega
  have y32 : ((y : Int) % 32) = ((y % 32 : Nat) : Int) := rfl
  have Y32 := Lib.hid y32
  have EX := Lib.hid ex
  have EY := Lib.hid ey
  clear y32 ex ey
  have hF : (signZ (IntKind.u64.wrap ((signZ ((x : Int)) 32) * 2 ^ ((signZ ((y : Int)) 32) % 32).toNat)) 32 : Int) = signZ (IntKind.u64.wrap ((u : Int) * 2 ^ (y % 32))) 32 := by rw [sx, sy, s32]; have := short_shl (u : Int) (v : Int) (by omega) (by omega); rw [s32, show ((v : Int) % 32 % 64).toNat = y % 32 by omega] at this; exact this
  rw [hF]
  have hW : Inw (IntKind.u64.wrap ((u : Int) * 2 ^ (y % 32))) := wrap_u64_in _
  clear hF sx sy bx by' s32 b32 hu hv
  have HW := Lib.hid hW
  clear hW
  go_enter Tryd.func60, Tryd.ntmps60
  go_wp2_with fail
  rw [EX.out, EY.out]
  refine (rsign_any (u : Int) 32 _ (by omega) (by omega)).mono ?_; rintro e w' ⟨rfl, rfl⟩
  generalize hs : signZ (u : Int) 32 = s
  have HS := Lib.hid hs
  clear hs
  go_wp2_with fail
  refine (rsign_any (v : Int) 32 _ (by omega) (by omega)).mono ?_; rintro e w' ⟨rfl, rfl⟩
  generalize ht : signZ (v : Int) 32 = t
  have HT := Lib.hid ht
  clear ht
  go_wp2_with fail
  rw [Y32.out]
  refine (rup_any u (y % 32) _ (by omega) (by omega)).mono ?_; rintro e w' ⟨rfl, rfl⟩
  go_wp2_with fail
  refine (rsign_any (IntKind.u64.wrap ((u : Int) * 2 ^ (y % 32))) 32 _ (wrap_u64_in _).1 (wrap_u64_in _).2).mono ?_; rintro e w' ⟨rfl, rfl⟩
  generalize hz : signZ (IntKind.u64.wrap ((u : Int) * 2 ^ (y % 32))) 32 = z
  have HZ := Lib.hid hz
  clear hz
  go_wp2_with fail
  exact bodyPost_ret (v := .tuple #[.int .u64 z, .bool true]) (by simp [results, Tryd.results60, go_sem]) rfl ⟨by rw [← HZ.out], Below.refl _ _⟩

set_option maxRecDepth 8000 in
theorem rs_slliw (x y : Nat) (w : World) (hx : x < 18446744073709551616) (hy : y < 18446744073709551616) :
    Calls Tryd.prog 60 #[.string ⟨#[115, 108, 108, 105, 119]⟩, .int .u64 x, .int .u64 y] w fun e w' => e = .returned (.tuple #[.int .u64 (signZ (IntKind.u64.wrap ((signZ ((x : Int)) 32) * 2 ^ ((signZ ((y : Int)) 32) % 32).toNat)) 32), .bool true]) ∧ Below w.heap.size w w' := by
  obtain ⟨u, hu⟩ : ∃ u : Nat, x % 4294967296 = u := ⟨_, rfl⟩
  obtain ⟨v, hv⟩ : ∃ v : Nat, y % 4294967296 = v := ⟨_, rfl⟩
  have hu' : u < 4294967296 := by omega
  have hv' : v < 4294967296 := by omega
  have ex : ((x : Int) % 4294967296) = (u : Int) := by omega
  have ey : ((y : Int) % 4294967296) = (v : Int) := by omega
  have sx : signZ (x : Int) 32 = signZ (u : Int) 32 := sign_congr _ _ (by omega) (by omega) (by omega)
  have sy : signZ (y : Int) 32 = signZ (v : Int) 32 := sign_congr _ _ (by omega) (by omega) (by omega)
  have bx : bitsZ (x : Int) 0 32 = (u : Int) := by unfold bitsZ bitsN; rw [if_neg (by omega), show (0 : Int).toNat = 0 from rfl, show (32 : Int).toNat = 32 from rfl, Int.toNat_natCast, Nat.pow_zero, Nat.div_one, show (2 : Nat) ^ 32 = 4294967296 from rfl, hu]
  have by' : bitsZ (y : Int) 0 32 = (v : Int) := by unfold bitsZ bitsN; rw [if_neg (by omega), show (0 : Int).toNat = 0 from rfl, show (32 : Int).toNat = 32 from rfl, Int.toNat_natCast, Nat.pow_zero, Nat.div_one, show (2 : Nat) ^ 32 = 4294967296 from rfl, hv]
  have s32 : (signZ (v : Int) 32 % 32).toNat = y % 32 := by have := sign_low (v : Int) (by omega); omega
  have b32 : ((v : Int) % 32).toNat = y % 32 := by omega
  have y32 : ((y : Int) % 32) = ((y % 32 : Nat) : Int) := rfl
  have Y32 := Lib.hid y32
  have EX := Lib.hid ex
  have EY := Lib.hid ey
  clear y32 ex ey
  have hF : (signZ (IntKind.u64.wrap ((signZ ((x : Int)) 32) * 2 ^ ((signZ ((y : Int)) 32) % 32).toNat)) 32 : Int) = signZ (IntKind.u64.wrap ((u : Int) * 2 ^ (y % 32))) 32 := by rw [sx, sy, s32]; have := short_shl (u : Int) (v : Int) (by omega) (by omega); rw [s32, show ((v : Int) % 32 % 64).toNat = y % 32 by omega] at this; exact this
  rw [hF]
  have hW : Inw (IntKind.u64.wrap ((u : Int) * 2 ^ (y % 32))) := wrap_u64_in _
  clear hF sx sy bx by' s32 b32 hu hv
  have HW := Lib.hid hW
  clear hW
  go_enter Tryd.func60, Tryd.ntmps60
  go_wp2_with fail
  rw [EX.out, EY.out]
  refine (rsign_any (u : Int) 32 _ (by omega) (by omega)).mono ?_; rintro e w' ⟨rfl, rfl⟩
  generalize hs : signZ (u : Int) 32 = s
  have HS := Lib.hid hs
  clear hs
  go_wp2_with fail
  refine (rsign_any (v : Int) 32 _ (by omega) (by omega)).mono ?_; rintro e w' ⟨rfl, rfl⟩
  generalize ht : signZ (v : Int) 32 = t
  have HT := Lib.hid ht
  clear ht
  go_wp2_with fail
  rw [Y32.out]
  refine (rup_any u (y % 32) _ (by omega) (by omega)).mono ?_; rintro e w' ⟨rfl, rfl⟩
  go_wp2_with fail
  refine (rsign_any (IntKind.u64.wrap ((u : Int) * 2 ^ (y % 32))) 32 _ (wrap_u64_in _).1 (wrap_u64_in _).2).mono ?_; rintro e w' ⟨rfl, rfl⟩
  generalize hz : signZ (IntKind.u64.wrap ((u : Int) * 2 ^ (y % 32))) 32 = z
  have HZ := Lib.hid hz
  clear hz
  go_wp2_with fail
  exact bodyPost_ret (v := .tuple #[.int .u64 z, .bool true]) (by simp [results, Tryd.results60, go_sem]) rfl ⟨by rw [← HZ.out], Below.refl _ _⟩

set_option maxRecDepth 8000 in
theorem rs_srlw (x y : Nat) (w : World) (hx : x < 18446744073709551616) (hy : y < 18446744073709551616) :
    Calls Tryd.prog 60 #[.string ⟨#[115, 114, 108, 119]⟩, .int .u64 x, .int .u64 y] w fun e w' => e = .returned (.tuple #[.int .u64 (signZ ((bitsZ ((x : Int)) 0 32) / 2 ^ ((bitsZ ((y : Int)) 0 32) % 32).toNat) 32), .bool true]) ∧ Below w.heap.size w w' := by
  obtain ⟨u, hu⟩ : ∃ u : Nat, x % 4294967296 = u := ⟨_, rfl⟩
  obtain ⟨v, hv⟩ : ∃ v : Nat, y % 4294967296 = v := ⟨_, rfl⟩
  have hu' : u < 4294967296 := by omega
  have hv' : v < 4294967296 := by omega
  have ex : ((x : Int) % 4294967296) = (u : Int) := by omega
  have ey : ((y : Int) % 4294967296) = (v : Int) := by omega
  have sx : signZ (x : Int) 32 = signZ (u : Int) 32 := sign_congr _ _ (by omega) (by omega) (by omega)
  have sy : signZ (y : Int) 32 = signZ (v : Int) 32 := sign_congr _ _ (by omega) (by omega) (by omega)
  have bx : bitsZ (x : Int) 0 32 = (u : Int) := by unfold bitsZ bitsN; rw [if_neg (by omega), show (0 : Int).toNat = 0 from rfl, show (32 : Int).toNat = 32 from rfl, Int.toNat_natCast, Nat.pow_zero, Nat.div_one, show (2 : Nat) ^ 32 = 4294967296 from rfl, hu]
  have by' : bitsZ (y : Int) 0 32 = (v : Int) := by unfold bitsZ bitsN; rw [if_neg (by omega), show (0 : Int).toNat = 0 from rfl, show (32 : Int).toNat = 32 from rfl, Int.toNat_natCast, Nat.pow_zero, Nat.div_one, show (2 : Nat) ^ 32 = 4294967296 from rfl, hv]
  have s32 : (signZ (v : Int) 32 % 32).toNat = y % 32 := by have := sign_low (v : Int) (by omega); omega
  have b32 : ((v : Int) % 32).toNat = y % 32 := by omega
  have y32 : ((y : Int) % 32) = ((y % 32 : Nat) : Int) := rfl
  have Y32 := Lib.hid y32
  have EX := Lib.hid ex
  have EY := Lib.hid ey
  clear y32 ex ey
  have hF : (signZ ((bitsZ ((x : Int)) 0 32) / 2 ^ ((bitsZ ((y : Int)) 0 32) % 32).toNat) 32 : Int) = signZ (((u / 2 ^ (y % 32) : Nat) : Int)) 32 := by rw [bx, by', b32, ediv_nat]
  rw [hF]
  have hW : Inw (((u / 2 ^ (y % 32) : Nat) : Int)) := by have hle := Nat.div_le_self u (2 ^ (y % 32)); generalize u / 2 ^ (y % 32) = q at hle ⊢; constructor <;> omega
  clear hF sx sy bx by' s32 b32 hu hv
  have HW := Lib.hid hW
  clear hW
  go_enter Tryd.func60, Tryd.ntmps60
  go_wp2_with fail
  rw [EX.out, EY.out]
  refine (rsign_any (u : Int) 32 _ (by omega) (by omega)).mono ?_; rintro e w' ⟨rfl, rfl⟩
  generalize hs : signZ (u : Int) 32 = s
  have HS := Lib.hid hs
  clear hs
  go_wp2_with fail
  refine (rsign_any (v : Int) 32 _ (by omega) (by omega)).mono ?_; rintro e w' ⟨rfl, rfl⟩
  generalize ht : signZ (v : Int) 32 = t
  have HT := Lib.hid ht
  clear ht
  go_wp2_with fail
  rw [Y32.out]
  refine (rdown0_any u (y % 32) _ (by omega) (by omega)).mono ?_; rintro e w' ⟨rfl, rfl⟩
  generalize hq : u / 2 ^ (y % 32) = q at HW ⊢
  have HQ := Lib.hid hq
  clear hq
  go_wp2_with fail
  refine (rsign_any ((q : Int)) 32 _ (HW.out).1 (HW.out).2).mono ?_; rintro e w' ⟨rfl, rfl⟩
  generalize hz : signZ ((q : Int)) 32 = z
  have HZ := Lib.hid hz
  clear hz
  go_wp2_with fail
  exact bodyPost_ret (v := .tuple #[.int .u64 z, .bool true]) (by simp [results, Tryd.results60, go_sem]) rfl ⟨by rw [HQ.out, HZ.out], Below.refl _ _⟩

set_option maxRecDepth 8000 in
theorem rs_srliw (x y : Nat) (w : World) (hx : x < 18446744073709551616) (hy : y < 18446744073709551616) :
    Calls Tryd.prog 60 #[.string ⟨#[115, 114, 108, 105, 119]⟩, .int .u64 x, .int .u64 y] w fun e w' => e = .returned (.tuple #[.int .u64 (signZ ((bitsZ ((x : Int)) 0 32) / 2 ^ ((bitsZ ((y : Int)) 0 32) % 32).toNat) 32), .bool true]) ∧ Below w.heap.size w w' := by
  obtain ⟨u, hu⟩ : ∃ u : Nat, x % 4294967296 = u := ⟨_, rfl⟩
  obtain ⟨v, hv⟩ : ∃ v : Nat, y % 4294967296 = v := ⟨_, rfl⟩
  have hu' : u < 4294967296 := by omega
  have hv' : v < 4294967296 := by omega
  have ex : ((x : Int) % 4294967296) = (u : Int) := by omega
  have ey : ((y : Int) % 4294967296) = (v : Int) := by omega
  have sx : signZ (x : Int) 32 = signZ (u : Int) 32 := sign_congr _ _ (by omega) (by omega) (by omega)
  have sy : signZ (y : Int) 32 = signZ (v : Int) 32 := sign_congr _ _ (by omega) (by omega) (by omega)
  have bx : bitsZ (x : Int) 0 32 = (u : Int) := by unfold bitsZ bitsN; rw [if_neg (by omega), show (0 : Int).toNat = 0 from rfl, show (32 : Int).toNat = 32 from rfl, Int.toNat_natCast, Nat.pow_zero, Nat.div_one, show (2 : Nat) ^ 32 = 4294967296 from rfl, hu]
  have by' : bitsZ (y : Int) 0 32 = (v : Int) := by unfold bitsZ bitsN; rw [if_neg (by omega), show (0 : Int).toNat = 0 from rfl, show (32 : Int).toNat = 32 from rfl, Int.toNat_natCast, Nat.pow_zero, Nat.div_one, show (2 : Nat) ^ 32 = 4294967296 from rfl, hv]
  have s32 : (signZ (v : Int) 32 % 32).toNat = y % 32 := by have := sign_low (v : Int) (by omega); omega
  have b32 : ((v : Int) % 32).toNat = y % 32 := by omega
  have y32 : ((y : Int) % 32) = ((y % 32 : Nat) : Int) := rfl
  have Y32 := Lib.hid y32
  have EX := Lib.hid ex
  have EY := Lib.hid ey
  clear y32 ex ey
  have hF : (signZ ((bitsZ ((x : Int)) 0 32) / 2 ^ ((bitsZ ((y : Int)) 0 32) % 32).toNat) 32 : Int) = signZ (((u / 2 ^ (y % 32) : Nat) : Int)) 32 := by rw [bx, by', b32, ediv_nat]
  rw [hF]
  have hW : Inw (((u / 2 ^ (y % 32) : Nat) : Int)) := by have hle := Nat.div_le_self u (2 ^ (y % 32)); generalize u / 2 ^ (y % 32) = q at hle ⊢; constructor <;> omega
  clear hF sx sy bx by' s32 b32 hu hv
  have HW := Lib.hid hW
  clear hW
  go_enter Tryd.func60, Tryd.ntmps60
  go_wp2_with fail
  rw [EX.out, EY.out]
  refine (rsign_any (u : Int) 32 _ (by omega) (by omega)).mono ?_; rintro e w' ⟨rfl, rfl⟩
  generalize hs : signZ (u : Int) 32 = s
  have HS := Lib.hid hs
  clear hs
  go_wp2_with fail
  refine (rsign_any (v : Int) 32 _ (by omega) (by omega)).mono ?_; rintro e w' ⟨rfl, rfl⟩
  generalize ht : signZ (v : Int) 32 = t
  have HT := Lib.hid ht
  clear ht
  go_wp2_with fail
  rw [Y32.out]
  refine (rdown0_any u (y % 32) _ (by omega) (by omega)).mono ?_; rintro e w' ⟨rfl, rfl⟩
  generalize hq : u / 2 ^ (y % 32) = q at HW ⊢
  have HQ := Lib.hid hq
  clear hq
  go_wp2_with fail
  refine (rsign_any ((q : Int)) 32 _ (HW.out).1 (HW.out).2).mono ?_; rintro e w' ⟨rfl, rfl⟩
  generalize hz : signZ ((q : Int)) 32 = z
  have HZ := Lib.hid hz
  clear hz
  go_wp2_with fail
  exact bodyPost_ret (v := .tuple #[.int .u64 z, .bool true]) (by simp [results, Tryd.results60, go_sem]) rfl ⟨by rw [HQ.out, HZ.out], Below.refl _ _⟩

set_option maxRecDepth 8000 in
theorem rs_divw (x y : Nat) (w : World) (hx : x < 18446744073709551616) (hy : y < 18446744073709551616) :
    Calls Tryd.prog 60 #[.string ⟨#[100, 105, 118, 119]⟩, .int .u64 x, .int .u64 y] w fun e w' => e = .returned (.tuple #[.int .u64 (signZ (quotZ ((signZ ((x : Int)) 32)) ((signZ ((y : Int)) 32)) true) 32), .bool true]) ∧ Below w.heap.size w w' := by
  obtain ⟨u, hu⟩ : ∃ u : Nat, x % 4294967296 = u := ⟨_, rfl⟩
  obtain ⟨v, hv⟩ : ∃ v : Nat, y % 4294967296 = v := ⟨_, rfl⟩
  have hu' : u < 4294967296 := by omega
  have hv' : v < 4294967296 := by omega
  have ex : ((x : Int) % 4294967296) = (u : Int) := by omega
  have ey : ((y : Int) % 4294967296) = (v : Int) := by omega
  have sx : signZ (x : Int) 32 = signZ (u : Int) 32 := sign_congr _ _ (by omega) (by omega) (by omega)
  have sy : signZ (y : Int) 32 = signZ (v : Int) 32 := sign_congr _ _ (by omega) (by omega) (by omega)
  have bx : bitsZ (x : Int) 0 32 = (u : Int) := by unfold bitsZ bitsN; rw [if_neg (by omega), show (0 : Int).toNat = 0 from rfl, show (32 : Int).toNat = 32 from rfl, Int.toNat_natCast, Nat.pow_zero, Nat.div_one, show (2 : Nat) ^ 32 = 4294967296 from rfl, hu]
  have by' : bitsZ (y : Int) 0 32 = (v : Int) := by unfold bitsZ bitsN; rw [if_neg (by omega), show (0 : Int).toNat = 0 from rfl, show (32 : Int).toNat = 32 from rfl, Int.toNat_natCast, Nat.pow_zero, Nat.div_one, show (2 : Nat) ^ 32 = 4294967296 from rfl, hv]
  have s32 : (signZ (v : Int) 32 % 32).toNat = y % 32 := by have := sign_low (v : Int) (by omega); omega
  have b32 : ((v : Int) % 32).toNat = y % 32 := by omega
  have y32 : ((y : Int) % 32) = ((y % 32 : Nat) : Int) := rfl
  have Y32 := Lib.hid y32
  have EX := Lib.hid ex
  have EY := Lib.hid ey
  clear y32 ex ey
  have hF : (signZ (quotZ ((signZ ((x : Int)) 32)) ((signZ ((y : Int)) 32)) true) 32 : Int) = signZ (quotZ (signZ (u : Int) 32) (signZ (v : Int) 32) true) 32 := by rw [sx, sy]
  rw [hF]
  have hW : Inw (quotZ (signZ (u : Int) 32) (signZ (v : Int) 32) true) := quot_in _ _ _ (signZ_in _ _).1 (signZ_in _ _).2 (signZ_in _ _).1 (signZ_in _ _).2
  clear hF sx sy bx by' s32 b32 hu hv
  have HW := Lib.hid hW
  clear hW
  go_enter Tryd.func60, Tryd.ntmps60
  go_wp2_with fail
  rw [EX.out, EY.out]
  refine (rsign_any (u : Int) 32 _ (by omega) (by omega)).mono ?_; rintro e w' ⟨rfl, rfl⟩
  generalize hs : signZ (u : Int) 32 = s
  have HS := Lib.hid hs
  clear hs
  go_wp2_with fail
  refine (rsign_any (v : Int) 32 _ (by omega) (by omega)).mono ?_; rintro e w' ⟨rfl, rfl⟩
  generalize ht : signZ (v : Int) 32 = t
  have HT := Lib.hid ht
  clear ht
  go_wp2_with fail
  have HWO := HW.out
  rw [HS.out, HT.out] at HWO
  have is := HS.out ▸ signZ_in (u : Int) 32
  have it := HT.out ▸ signZ_in (v : Int) 32
  refine (rquot_any s t true _ is.1 is.2 it.1 it.2).mono ?_; rintro e w' ⟨rfl, rfl⟩
  generalize hq : quotZ s t true = q at HWO ⊢
  have HQ := Lib.hid hq
  clear hq
  go_wp2_with fail
  refine (rsign_any (q) 32 _ (HWO).1 (HWO).2).mono ?_; rintro e w' ⟨rfl, rfl⟩
  generalize hz : signZ (q) 32 = z
  have HZ := Lib.hid hz
  clear hz
  go_wp2_with fail
  exact bodyPost_ret (v := .tuple #[.int .u64 z, .bool true]) (by simp [results, Tryd.results60, go_sem]) rfl ⟨by rw [HS.out, HT.out, HQ.out, HZ.out], Below.refl _ _⟩

set_option maxRecDepth 8000 in
theorem rs_remw (x y : Nat) (w : World) (hx : x < 18446744073709551616) (hy : y < 18446744073709551616) :
    Calls Tryd.prog 60 #[.string ⟨#[114, 101, 109, 119]⟩, .int .u64 x, .int .u64 y] w fun e w' => e = .returned (.tuple #[.int .u64 (signZ (restZ ((signZ ((x : Int)) 32)) ((signZ ((y : Int)) 32)) true) 32), .bool true]) ∧ Below w.heap.size w w' := by
  obtain ⟨u, hu⟩ : ∃ u : Nat, x % 4294967296 = u := ⟨_, rfl⟩
  obtain ⟨v, hv⟩ : ∃ v : Nat, y % 4294967296 = v := ⟨_, rfl⟩
  have hu' : u < 4294967296 := by omega
  have hv' : v < 4294967296 := by omega
  have ex : ((x : Int) % 4294967296) = (u : Int) := by omega
  have ey : ((y : Int) % 4294967296) = (v : Int) := by omega
  have sx : signZ (x : Int) 32 = signZ (u : Int) 32 := sign_congr _ _ (by omega) (by omega) (by omega)
  have sy : signZ (y : Int) 32 = signZ (v : Int) 32 := sign_congr _ _ (by omega) (by omega) (by omega)
  have bx : bitsZ (x : Int) 0 32 = (u : Int) := by unfold bitsZ bitsN; rw [if_neg (by omega), show (0 : Int).toNat = 0 from rfl, show (32 : Int).toNat = 32 from rfl, Int.toNat_natCast, Nat.pow_zero, Nat.div_one, show (2 : Nat) ^ 32 = 4294967296 from rfl, hu]
  have by' : bitsZ (y : Int) 0 32 = (v : Int) := by unfold bitsZ bitsN; rw [if_neg (by omega), show (0 : Int).toNat = 0 from rfl, show (32 : Int).toNat = 32 from rfl, Int.toNat_natCast, Nat.pow_zero, Nat.div_one, show (2 : Nat) ^ 32 = 4294967296 from rfl, hv]
  have s32 : (signZ (v : Int) 32 % 32).toNat = y % 32 := by have := sign_low (v : Int) (by omega); omega
  have b32 : ((v : Int) % 32).toNat = y % 32 := by omega
  have y32 : ((y : Int) % 32) = ((y % 32 : Nat) : Int) := rfl
  have Y32 := Lib.hid y32
  have EX := Lib.hid ex
  have EY := Lib.hid ey
  clear y32 ex ey
  have hF : (signZ (restZ ((signZ ((x : Int)) 32)) ((signZ ((y : Int)) 32)) true) 32 : Int) = signZ (restZ (signZ (u : Int) 32) (signZ (v : Int) 32) true) 32 := by rw [sx, sy]
  rw [hF]
  have hW : Inw (restZ (signZ (u : Int) 32) (signZ (v : Int) 32) true) := rest_in _ _ _ (signZ_in _ _).1 (signZ_in _ _).2 (signZ_in _ _).1 (signZ_in _ _).2
  clear hF sx sy bx by' s32 b32 hu hv
  have HW := Lib.hid hW
  clear hW
  go_enter Tryd.func60, Tryd.ntmps60
  go_wp2_with fail
  rw [EX.out, EY.out]
  refine (rsign_any (u : Int) 32 _ (by omega) (by omega)).mono ?_; rintro e w' ⟨rfl, rfl⟩
  generalize hs : signZ (u : Int) 32 = s
  have HS := Lib.hid hs
  clear hs
  go_wp2_with fail
  refine (rsign_any (v : Int) 32 _ (by omega) (by omega)).mono ?_; rintro e w' ⟨rfl, rfl⟩
  generalize ht : signZ (v : Int) 32 = t
  have HT := Lib.hid ht
  clear ht
  go_wp2_with fail
  have HWO := HW.out
  rw [HS.out, HT.out] at HWO
  have is := HS.out ▸ signZ_in (u : Int) 32
  have it := HT.out ▸ signZ_in (v : Int) 32
  refine (rrest_any s t true _ is.1 is.2 it.1 it.2).mono ?_; rintro e w' ⟨rfl, rfl⟩
  generalize hq : restZ s t true = q at HWO ⊢
  have HQ := Lib.hid hq
  clear hq
  go_wp2_with fail
  refine (rsign_any (q) 32 _ (HWO).1 (HWO).2).mono ?_; rintro e w' ⟨rfl, rfl⟩
  generalize hz : signZ (q) 32 = z
  have HZ := Lib.hid hz
  clear hz
  go_wp2_with fail
  exact bodyPost_ret (v := .tuple #[.int .u64 z, .bool true]) (by simp [results, Tryd.results60, go_sem]) rfl ⟨by rw [HS.out, HT.out, HQ.out, HZ.out], Below.refl _ _⟩

set_option maxRecDepth 8000 in
theorem rs_divuw (x y : Nat) (w : World) (hx : x < 18446744073709551616) (hy : y < 18446744073709551616) :
    Calls Tryd.prog 60 #[.string ⟨#[100, 105, 118, 117, 119]⟩, .int .u64 x, .int .u64 y] w fun e w' => e = .returned (.tuple #[.int .u64 (signZ (quotZ ((bitsZ ((x : Int)) 0 32)) ((bitsZ ((y : Int)) 0 32)) false) 32), .bool true]) ∧ Below w.heap.size w w' := by
  obtain ⟨u, hu⟩ : ∃ u : Nat, x % 4294967296 = u := ⟨_, rfl⟩
  obtain ⟨v, hv⟩ : ∃ v : Nat, y % 4294967296 = v := ⟨_, rfl⟩
  have hu' : u < 4294967296 := by omega
  have hv' : v < 4294967296 := by omega
  have ex : ((x : Int) % 4294967296) = (u : Int) := by omega
  have ey : ((y : Int) % 4294967296) = (v : Int) := by omega
  have sx : signZ (x : Int) 32 = signZ (u : Int) 32 := sign_congr _ _ (by omega) (by omega) (by omega)
  have sy : signZ (y : Int) 32 = signZ (v : Int) 32 := sign_congr _ _ (by omega) (by omega) (by omega)
  have bx : bitsZ (x : Int) 0 32 = (u : Int) := by unfold bitsZ bitsN; rw [if_neg (by omega), show (0 : Int).toNat = 0 from rfl, show (32 : Int).toNat = 32 from rfl, Int.toNat_natCast, Nat.pow_zero, Nat.div_one, show (2 : Nat) ^ 32 = 4294967296 from rfl, hu]
  have by' : bitsZ (y : Int) 0 32 = (v : Int) := by unfold bitsZ bitsN; rw [if_neg (by omega), show (0 : Int).toNat = 0 from rfl, show (32 : Int).toNat = 32 from rfl, Int.toNat_natCast, Nat.pow_zero, Nat.div_one, show (2 : Nat) ^ 32 = 4294967296 from rfl, hv]
  have s32 : (signZ (v : Int) 32 % 32).toNat = y % 32 := by have := sign_low (v : Int) (by omega); omega
  have b32 : ((v : Int) % 32).toNat = y % 32 := by omega
  have y32 : ((y : Int) % 32) = ((y % 32 : Nat) : Int) := rfl
  have Y32 := Lib.hid y32
  have EX := Lib.hid ex
  have EY := Lib.hid ey
  clear y32 ex ey
  have hF : (signZ (quotZ ((bitsZ ((x : Int)) 0 32)) ((bitsZ ((y : Int)) 0 32)) false) 32 : Int) = signZ (quotZ (u : Int) (v : Int) false) 32 := by rw [bx, by']
  rw [hF]
  have hW : Inw (quotZ (u : Int) (v : Int) false) := quot_in _ _ _ (by omega) (by omega) (by omega) (by omega)
  clear hF sx sy bx by' s32 b32 hu hv
  have HW := Lib.hid hW
  clear hW
  go_enter Tryd.func60, Tryd.ntmps60
  go_wp2_with fail
  rw [EX.out, EY.out]
  refine (rsign_any (u : Int) 32 _ (by omega) (by omega)).mono ?_; rintro e w' ⟨rfl, rfl⟩
  generalize hs : signZ (u : Int) 32 = s
  have HS := Lib.hid hs
  clear hs
  go_wp2_with fail
  refine (rsign_any (v : Int) 32 _ (by omega) (by omega)).mono ?_; rintro e w' ⟨rfl, rfl⟩
  generalize ht : signZ (v : Int) 32 = t
  have HT := Lib.hid ht
  clear ht
  go_wp2_with fail
  have HWO := HW.out
  refine (rquot_any u v false _ (by omega) (by omega) (by omega) (by omega)).mono ?_; rintro e w' ⟨rfl, rfl⟩
  generalize hq : quotZ (u : Int) (v : Int) false = q at HWO ⊢
  have HQ := Lib.hid hq
  clear hq
  go_wp2_with fail
  refine (rsign_any (q) 32 _ (HWO).1 (HWO).2).mono ?_; rintro e w' ⟨rfl, rfl⟩
  generalize hz : signZ (q) 32 = z
  have HZ := Lib.hid hz
  clear hz
  go_wp2_with fail
  exact bodyPost_ret (v := .tuple #[.int .u64 z, .bool true]) (by simp [results, Tryd.results60, go_sem]) rfl ⟨by rw [HQ.out, HZ.out], Below.refl _ _⟩

set_option maxRecDepth 8000 in
theorem rs_remuw (x y : Nat) (w : World) (hx : x < 18446744073709551616) (hy : y < 18446744073709551616) :
    Calls Tryd.prog 60 #[.string ⟨#[114, 101, 109, 117, 119]⟩, .int .u64 x, .int .u64 y] w fun e w' => e = .returned (.tuple #[.int .u64 (signZ (restZ ((bitsZ ((x : Int)) 0 32)) ((bitsZ ((y : Int)) 0 32)) false) 32), .bool true]) ∧ Below w.heap.size w w' := by
  obtain ⟨u, hu⟩ : ∃ u : Nat, x % 4294967296 = u := ⟨_, rfl⟩
  obtain ⟨v, hv⟩ : ∃ v : Nat, y % 4294967296 = v := ⟨_, rfl⟩
  have hu' : u < 4294967296 := by omega
  have hv' : v < 4294967296 := by omega
  have ex : ((x : Int) % 4294967296) = (u : Int) := by omega
  have ey : ((y : Int) % 4294967296) = (v : Int) := by omega
  have sx : signZ (x : Int) 32 = signZ (u : Int) 32 := sign_congr _ _ (by omega) (by omega) (by omega)
  have sy : signZ (y : Int) 32 = signZ (v : Int) 32 := sign_congr _ _ (by omega) (by omega) (by omega)
  have bx : bitsZ (x : Int) 0 32 = (u : Int) := by unfold bitsZ bitsN; rw [if_neg (by omega), show (0 : Int).toNat = 0 from rfl, show (32 : Int).toNat = 32 from rfl, Int.toNat_natCast, Nat.pow_zero, Nat.div_one, show (2 : Nat) ^ 32 = 4294967296 from rfl, hu]
  have by' : bitsZ (y : Int) 0 32 = (v : Int) := by unfold bitsZ bitsN; rw [if_neg (by omega), show (0 : Int).toNat = 0 from rfl, show (32 : Int).toNat = 32 from rfl, Int.toNat_natCast, Nat.pow_zero, Nat.div_one, show (2 : Nat) ^ 32 = 4294967296 from rfl, hv]
  have s32 : (signZ (v : Int) 32 % 32).toNat = y % 32 := by have := sign_low (v : Int) (by omega); omega
  have b32 : ((v : Int) % 32).toNat = y % 32 := by omega
  have y32 : ((y : Int) % 32) = ((y % 32 : Nat) : Int) := rfl
  have Y32 := Lib.hid y32
  have EX := Lib.hid ex
  have EY := Lib.hid ey
  clear y32 ex ey
  have hF : (signZ (restZ ((bitsZ ((x : Int)) 0 32)) ((bitsZ ((y : Int)) 0 32)) false) 32 : Int) = signZ (restZ (u : Int) (v : Int) false) 32 := by rw [bx, by']
  rw [hF]
  have hW : Inw (restZ (u : Int) (v : Int) false) := rest_in _ _ _ (by omega) (by omega) (by omega) (by omega)
  clear hF sx sy bx by' s32 b32 hu hv
  have HW := Lib.hid hW
  clear hW
  go_enter Tryd.func60, Tryd.ntmps60
  go_wp2_with fail
  rw [EX.out, EY.out]
  refine (rsign_any (u : Int) 32 _ (by omega) (by omega)).mono ?_; rintro e w' ⟨rfl, rfl⟩
  generalize hs : signZ (u : Int) 32 = s
  have HS := Lib.hid hs
  clear hs
  go_wp2_with fail
  refine (rsign_any (v : Int) 32 _ (by omega) (by omega)).mono ?_; rintro e w' ⟨rfl, rfl⟩
  generalize ht : signZ (v : Int) 32 = t
  have HT := Lib.hid ht
  clear ht
  go_wp2_with fail
  have HWO := HW.out
  refine (rrest_any u v false _ (by omega) (by omega) (by omega) (by omega)).mono ?_; rintro e w' ⟨rfl, rfl⟩
  generalize hq : restZ (u : Int) (v : Int) false = q at HWO ⊢
  have HQ := Lib.hid hq
  clear hq
  go_wp2_with fail
  refine (rsign_any (q) 32 _ (HWO).1 (HWO).2).mono ?_; rintro e w' ⟨rfl, rfl⟩
  generalize hz : signZ (q) 32 = z
  have HZ := Lib.hid hz
  clear hz
  go_wp2_with fail
  exact bodyPost_ret (v := .tuple #[.int .u64 z, .bool true]) (by simp [results, Tryd.results60, go_sem]) rfl ⟨by rw [HQ.out, HZ.out], Below.refl _ _⟩

set_option maxRecDepth 8000 in
theorem rs_sraw (x y : Nat) (w : World) (hx : x < 18446744073709551616) (hy : y < 18446744073709551616) :
    Calls Tryd.prog 60 #[.string ⟨#[115, 114, 97, 119]⟩, .int .u64 x, .int .u64 y] w fun e w' => e = .returned (.tuple #[.int .u64 (signZ (IntKind.u64.wrap (wrap64 ((signZ ((x : Int)) 32)) / 2 ^ ((signZ ((y : Int)) 32) % 32).toNat)) 32), .bool true]) ∧ Below w.heap.size w w' := by
  obtain ⟨u, hu⟩ : ∃ u : Nat, x % 4294967296 = u := ⟨_, rfl⟩
  obtain ⟨v, hv⟩ : ∃ v : Nat, y % 4294967296 = v := ⟨_, rfl⟩
  have hu' : u < 4294967296 := by omega
  have hv' : v < 4294967296 := by omega
  have ex : ((x : Int) % 4294967296) = (u : Int) := by omega
  have ey : ((y : Int) % 4294967296) = (v : Int) := by omega
  have sx : signZ (x : Int) 32 = signZ (u : Int) 32 := sign_congr _ _ (by omega) (by omega) (by omega)
  have sy : signZ (y : Int) 32 = signZ (v : Int) 32 := sign_congr _ _ (by omega) (by omega) (by omega)
  have bx : bitsZ (x : Int) 0 32 = (u : Int) := by unfold bitsZ bitsN; rw [if_neg (by omega), show (0 : Int).toNat = 0 from rfl, show (32 : Int).toNat = 32 from rfl, Int.toNat_natCast, Nat.pow_zero, Nat.div_one, show (2 : Nat) ^ 32 = 4294967296 from rfl, hu]
  have by' : bitsZ (y : Int) 0 32 = (v : Int) := by unfold bitsZ bitsN; rw [if_neg (by omega), show (0 : Int).toNat = 0 from rfl, show (32 : Int).toNat = 32 from rfl, Int.toNat_natCast, Nat.pow_zero, Nat.div_one, show (2 : Nat) ^ 32 = 4294967296 from rfl, hv]
  have s32 : (signZ (v : Int) 32 % 32).toNat = y % 32 := by have := sign_low (v : Int) (by omega); omega
  have b32 : ((v : Int) % 32).toNat = y % 32 := by omega
  have y32 : ((y : Int) % 32) = ((y % 32 : Nat) : Int) := rfl
  have Y32 := Lib.hid y32
  have EX := Lib.hid ex
  have EY := Lib.hid ey
  clear y32 ex ey
  have hF : (signZ (IntKind.u64.wrap (wrap64 ((signZ ((x : Int)) 32)) / 2 ^ ((signZ ((y : Int)) 32) % 32).toNat)) 32 : Int) = signZ (IntKind.u64.wrap (wrap64 (signZ (u : Int) 32) / 2 ^ (y % 32))) 32 := by rw [sx, sy, s32]
  rw [hF]
  have hW : Inw (IntKind.u64.wrap (wrap64 (signZ (u : Int) 32) / 2 ^ (y % 32))) := wrap_u64_in _
  clear hF sx sy bx by' s32 b32 hu hv
  have HW := Lib.hid hW
  clear hW
  go_enter Tryd.func60, Tryd.ntmps60
  go_wp2_with fail
  rw [EX.out, EY.out]
  refine (rsign_any (u : Int) 32 _ (by omega) (by omega)).mono ?_; rintro e w' ⟨rfl, rfl⟩
  generalize hs : signZ (u : Int) 32 = s
  have HS := Lib.hid hs
  clear hs
  go_wp2_with fail
  refine (rsign_any (v : Int) 32 _ (by omega) (by omega)).mono ?_; rintro e w' ⟨rfl, rfl⟩
  generalize ht : signZ (v : Int) 32 = t
  have HT := Lib.hid ht
  clear ht
  go_wp2_with fail
  have is := HS.out ▸ signZ_in (u : Int) 32
  obtain ⟨g, rfl⟩ := Int.eq_ofNat_of_zero_le is.1
  have hg : g < 18446744073709551616 := by have := is.2; omega
  rw [Y32.out]
  rcases Nat.lt_or_ge g 9223372036854775808 with h | h
  · have hc : ((g : Int) / 9223372036854775808) = 0 := by omega
    rw [hc]
    have HH := Lib.hid (sar_low g (y % 32) h)
    clear hc h
    refine (rdown0_any g (y % 32) _ hg (by omega)).mono ?_; rintro e w' ⟨rfl, rfl⟩
    have hq : ((g / 2 ^ (y % 32) : Nat) : Int) = IntKind.u64.wrap (wrap64 (g : Int) / 2 ^ (y % 32)) := HH.out.symm
    rw [hq]
    clear hq
    generalize hr : IntKind.u64.wrap (wrap64 (g : Int) / 2 ^ (y % 32)) = r
    have HR := Lib.hid hr
    have ir := hr ▸ wrap_u64_in (wrap64 (g : Int) / 2 ^ (y % 32))
    clear hr
    go_wp2_with fail
    refine (rsign_any r 32 _ ir.1 ir.2).mono ?_; rintro e w' ⟨rfl, rfl⟩
    generalize hz : signZ r 32 = z
    have HZ := Lib.hid hz
    clear hz
    go_wp2_with fail
    exact bodyPost_ret (v := .tuple #[.int .u64 z, .bool true]) (by simp [results, Tryd.results60, go_sem]) rfl ⟨by rw [HS.out, HR.out, HZ.out], Below.refl _ _⟩
  · have hc : ((g : Int) / 9223372036854775808) = 1 := by omega
    rw [hc]
    have HH := Lib.hid h
    clear hc h
    refine (rdown1_any g (y % 32) _ hg HH.out (by omega)).mono ?_; rintro e w' ⟨rfl, rfl⟩
    generalize hr : IntKind.u64.wrap (wrap64 (g : Int) / 2 ^ (y % 32)) = r
    have HR := Lib.hid hr
    have ir := hr ▸ wrap_u64_in (wrap64 (g : Int) / 2 ^ (y % 32))
    clear hr
    go_wp2_with fail
    refine (rsign_any r 32 _ ir.1 ir.2).mono ?_; rintro e w' ⟨rfl, rfl⟩
    generalize hz : signZ r 32 = z
    have HZ := Lib.hid hz
    clear hz
    go_wp2_with fail
    exact bodyPost_ret (v := .tuple #[.int .u64 z, .bool true]) (by simp [results, Tryd.results60, go_sem]) rfl ⟨by rw [HS.out, HR.out, HZ.out], Below.refl _ _⟩

set_option maxRecDepth 8000 in
theorem rs_sraiw (x y : Nat) (w : World) (hx : x < 18446744073709551616) (hy : y < 18446744073709551616) :
    Calls Tryd.prog 60 #[.string ⟨#[115, 114, 97, 105, 119]⟩, .int .u64 x, .int .u64 y] w fun e w' => e = .returned (.tuple #[.int .u64 (signZ (IntKind.u64.wrap (wrap64 ((signZ ((x : Int)) 32)) / 2 ^ ((signZ ((y : Int)) 32) % 32).toNat)) 32), .bool true]) ∧ Below w.heap.size w w' := by
  obtain ⟨u, hu⟩ : ∃ u : Nat, x % 4294967296 = u := ⟨_, rfl⟩
  obtain ⟨v, hv⟩ : ∃ v : Nat, y % 4294967296 = v := ⟨_, rfl⟩
  have hu' : u < 4294967296 := by omega
  have hv' : v < 4294967296 := by omega
  have ex : ((x : Int) % 4294967296) = (u : Int) := by omega
  have ey : ((y : Int) % 4294967296) = (v : Int) := by omega
  have sx : signZ (x : Int) 32 = signZ (u : Int) 32 := sign_congr _ _ (by omega) (by omega) (by omega)
  have sy : signZ (y : Int) 32 = signZ (v : Int) 32 := sign_congr _ _ (by omega) (by omega) (by omega)
  have bx : bitsZ (x : Int) 0 32 = (u : Int) := by unfold bitsZ bitsN; rw [if_neg (by omega), show (0 : Int).toNat = 0 from rfl, show (32 : Int).toNat = 32 from rfl, Int.toNat_natCast, Nat.pow_zero, Nat.div_one, show (2 : Nat) ^ 32 = 4294967296 from rfl, hu]
  have by' : bitsZ (y : Int) 0 32 = (v : Int) := by unfold bitsZ bitsN; rw [if_neg (by omega), show (0 : Int).toNat = 0 from rfl, show (32 : Int).toNat = 32 from rfl, Int.toNat_natCast, Nat.pow_zero, Nat.div_one, show (2 : Nat) ^ 32 = 4294967296 from rfl, hv]
  have s32 : (signZ (v : Int) 32 % 32).toNat = y % 32 := by have := sign_low (v : Int) (by omega); omega
  have b32 : ((v : Int) % 32).toNat = y % 32 := by omega
  have y32 : ((y : Int) % 32) = ((y % 32 : Nat) : Int) := rfl
  have Y32 := Lib.hid y32
  have EX := Lib.hid ex
  have EY := Lib.hid ey
  clear y32 ex ey
  have hF : (signZ (IntKind.u64.wrap (wrap64 ((signZ ((x : Int)) 32)) / 2 ^ ((signZ ((y : Int)) 32) % 32).toNat)) 32 : Int) = signZ (IntKind.u64.wrap (wrap64 (signZ (u : Int) 32) / 2 ^ (y % 32))) 32 := by rw [sx, sy, s32]
  rw [hF]
  have hW : Inw (IntKind.u64.wrap (wrap64 (signZ (u : Int) 32) / 2 ^ (y % 32))) := wrap_u64_in _
  clear hF sx sy bx by' s32 b32 hu hv
  have HW := Lib.hid hW
  clear hW
  go_enter Tryd.func60, Tryd.ntmps60
  go_wp2_with fail
  rw [EX.out, EY.out]
  refine (rsign_any (u : Int) 32 _ (by omega) (by omega)).mono ?_; rintro e w' ⟨rfl, rfl⟩
  generalize hs : signZ (u : Int) 32 = s
  have HS := Lib.hid hs
  clear hs
  go_wp2_with fail
  refine (rsign_any (v : Int) 32 _ (by omega) (by omega)).mono ?_; rintro e w' ⟨rfl, rfl⟩
  generalize ht : signZ (v : Int) 32 = t
  have HT := Lib.hid ht
  clear ht
  go_wp2_with fail
  have is := HS.out ▸ signZ_in (u : Int) 32
  obtain ⟨g, rfl⟩ := Int.eq_ofNat_of_zero_le is.1
  have hg : g < 18446744073709551616 := by have := is.2; omega
  rw [Y32.out]
  rcases Nat.lt_or_ge g 9223372036854775808 with h | h
  · have hc : ((g : Int) / 9223372036854775808) = 0 := by omega
    rw [hc]
    have HH := Lib.hid (sar_low g (y % 32) h)
    clear hc h
    refine (rdown0_any g (y % 32) _ hg (by omega)).mono ?_; rintro e w' ⟨rfl, rfl⟩
    have hq : ((g / 2 ^ (y % 32) : Nat) : Int) = IntKind.u64.wrap (wrap64 (g : Int) / 2 ^ (y % 32)) := HH.out.symm
    rw [hq]
    clear hq
    generalize hr : IntKind.u64.wrap (wrap64 (g : Int) / 2 ^ (y % 32)) = r
    have HR := Lib.hid hr
    have ir := hr ▸ wrap_u64_in (wrap64 (g : Int) / 2 ^ (y % 32))
    clear hr
    go_wp2_with fail
    refine (rsign_any r 32 _ ir.1 ir.2).mono ?_; rintro e w' ⟨rfl, rfl⟩
    generalize hz : signZ r 32 = z
    have HZ := Lib.hid hz
    clear hz
    go_wp2_with fail
    exact bodyPost_ret (v := .tuple #[.int .u64 z, .bool true]) (by simp [results, Tryd.results60, go_sem]) rfl ⟨by rw [HS.out, HR.out, HZ.out], Below.refl _ _⟩
  · have hc : ((g : Int) / 9223372036854775808) = 1 := by omega
    rw [hc]
    have HH := Lib.hid h
    clear hc h
    refine (rdown1_any g (y % 32) _ hg HH.out (by omega)).mono ?_; rintro e w' ⟨rfl, rfl⟩
    generalize hr : IntKind.u64.wrap (wrap64 (g : Int) / 2 ^ (y % 32)) = r
    have HR := Lib.hid hr
    have ir := hr ▸ wrap_u64_in (wrap64 (g : Int) / 2 ^ (y % 32))
    clear hr
    go_wp2_with fail
    refine (rsign_any r 32 _ ir.1 ir.2).mono ?_; rintro e w' ⟨rfl, rfl⟩
    generalize hz : signZ r 32 = z
    have HZ := Lib.hid hz
    clear hz
    go_wp2_with fail
    exact bodyPost_ret (v := .tuple #[.int .u64 z, .bool true]) (by simp [results, Tryd.results60, go_sem]) rfl ⟨by rw [HS.out, HR.out, HZ.out], Below.refl _ _⟩

set_option maxRecDepth 8000 in
theorem rm_addw (x y : Nat) (w : World) (hx : x < 18446744073709551616) (hy : y < 18446744073709551616) :
    Calls Tryd.prog 29 #[.string ⟨#[97, 100, 100, 119]⟩, .int .u64 x, .int .u64 y] w fun e w' => e = .returned (.tuple #[.int .u64 (signZ (IntKind.u64.wrap ((signZ ((x : Int)) 32) + (signZ ((y : Int)) 32))) 32), .bool true]) ∧ Below w.heap.size w w' := by
  have hc := rs_addw x y w hx hy
  generalize (signZ (IntKind.u64.wrap ((signZ ((x : Int)) 32) + (signZ ((y : Int)) 32))) 32 : Int) = z at hc ⊢
  have HC := Lib.hid hc
  clear hc
  go_enter Tryd.func29, Tryd.ntmps29
  go_wp2_with fail
  refine HC.out.mono ?_; rintro e w' ⟨rfl, hb⟩
  have HB := Lib.hid hb
  clear hb
  go_wp2_with fail
  exact bodyPost_ret (v := .tuple #[.int .u64 z, .bool true]) (by simp [results, Tryd.results29, go_sem]) rfl ⟨rfl, HB.out⟩

set_option maxRecDepth 8000 in
theorem rm_subw (x y : Nat) (w : World) (hx : x < 18446744073709551616) (hy : y < 18446744073709551616) :
    Calls Tryd.prog 29 #[.string ⟨#[115, 117, 98, 119]⟩, .int .u64 x, .int .u64 y] w fun e w' => e = .returned (.tuple #[.int .u64 (signZ (IntKind.u64.wrap ((signZ ((x : Int)) 32) - (signZ ((y : Int)) 32))) 32), .bool true]) ∧ Below w.heap.size w w' := by
  have hc := rs_subw x y w hx hy
  generalize (signZ (IntKind.u64.wrap ((signZ ((x : Int)) 32) - (signZ ((y : Int)) 32))) 32 : Int) = z at hc ⊢
  have HC := Lib.hid hc
  clear hc
  go_enter Tryd.func29, Tryd.ntmps29
  go_wp2_with fail
  refine HC.out.mono ?_; rintro e w' ⟨rfl, hb⟩
  have HB := Lib.hid hb
  clear hb
  go_wp2_with fail
  exact bodyPost_ret (v := .tuple #[.int .u64 z, .bool true]) (by simp [results, Tryd.results29, go_sem]) rfl ⟨rfl, HB.out⟩

set_option maxRecDepth 8000 in
theorem rm_sllw (x y : Nat) (w : World) (hx : x < 18446744073709551616) (hy : y < 18446744073709551616) :
    Calls Tryd.prog 29 #[.string ⟨#[115, 108, 108, 119]⟩, .int .u64 x, .int .u64 y] w fun e w' => e = .returned (.tuple #[.int .u64 (signZ (IntKind.u64.wrap ((signZ ((x : Int)) 32) * 2 ^ ((signZ ((y : Int)) 32) % 32).toNat)) 32), .bool true]) ∧ Below w.heap.size w w' := by
  have hc := rs_sllw x y w hx hy
  generalize (signZ (IntKind.u64.wrap ((signZ ((x : Int)) 32) * 2 ^ ((signZ ((y : Int)) 32) % 32).toNat)) 32 : Int) = z at hc ⊢
  have HC := Lib.hid hc
  clear hc
  go_enter Tryd.func29, Tryd.ntmps29
  go_wp2_with fail
  refine HC.out.mono ?_; rintro e w' ⟨rfl, hb⟩
  have HB := Lib.hid hb
  clear hb
  go_wp2_with fail
  exact bodyPost_ret (v := .tuple #[.int .u64 z, .bool true]) (by simp [results, Tryd.results29, go_sem]) rfl ⟨rfl, HB.out⟩

set_option maxRecDepth 8000 in
theorem rm_srlw (x y : Nat) (w : World) (hx : x < 18446744073709551616) (hy : y < 18446744073709551616) :
    Calls Tryd.prog 29 #[.string ⟨#[115, 114, 108, 119]⟩, .int .u64 x, .int .u64 y] w fun e w' => e = .returned (.tuple #[.int .u64 (signZ ((bitsZ ((x : Int)) 0 32) / 2 ^ ((bitsZ ((y : Int)) 0 32) % 32).toNat) 32), .bool true]) ∧ Below w.heap.size w w' := by
  have hc := rs_srlw x y w hx hy
  generalize (signZ ((bitsZ ((x : Int)) 0 32) / 2 ^ ((bitsZ ((y : Int)) 0 32) % 32).toNat) 32 : Int) = z at hc ⊢
  have HC := Lib.hid hc
  clear hc
  go_enter Tryd.func29, Tryd.ntmps29
  go_wp2_with fail
  refine HC.out.mono ?_; rintro e w' ⟨rfl, hb⟩
  have HB := Lib.hid hb
  clear hb
  go_wp2_with fail
  exact bodyPost_ret (v := .tuple #[.int .u64 z, .bool true]) (by simp [results, Tryd.results29, go_sem]) rfl ⟨rfl, HB.out⟩

set_option maxRecDepth 8000 in
theorem rm_sraw (x y : Nat) (w : World) (hx : x < 18446744073709551616) (hy : y < 18446744073709551616) :
    Calls Tryd.prog 29 #[.string ⟨#[115, 114, 97, 119]⟩, .int .u64 x, .int .u64 y] w fun e w' => e = .returned (.tuple #[.int .u64 (signZ (IntKind.u64.wrap (wrap64 ((signZ ((x : Int)) 32)) / 2 ^ ((signZ ((y : Int)) 32) % 32).toNat)) 32), .bool true]) ∧ Below w.heap.size w w' := by
  have hc := rs_sraw x y w hx hy
  generalize (signZ (IntKind.u64.wrap (wrap64 ((signZ ((x : Int)) 32)) / 2 ^ ((signZ ((y : Int)) 32) % 32).toNat)) 32 : Int) = z at hc ⊢
  have HC := Lib.hid hc
  clear hc
  go_enter Tryd.func29, Tryd.ntmps29
  go_wp2_with fail
  refine HC.out.mono ?_; rintro e w' ⟨rfl, hb⟩
  have HB := Lib.hid hb
  clear hb
  go_wp2_with fail
  exact bodyPost_ret (v := .tuple #[.int .u64 z, .bool true]) (by simp [results, Tryd.results29, go_sem]) rfl ⟨rfl, HB.out⟩

set_option maxRecDepth 8000 in
theorem rm_mulw (x y : Nat) (w : World) (hx : x < 18446744073709551616) (hy : y < 18446744073709551616) :
    Calls Tryd.prog 29 #[.string ⟨#[109, 117, 108, 119]⟩, .int .u64 x, .int .u64 y] w fun e w' => e = .returned (.tuple #[.int .u64 (signZ (IntKind.u64.wrap ((signZ ((x : Int)) 32) * (signZ ((y : Int)) 32))) 32), .bool true]) ∧ Below w.heap.size w w' := by
  have hc := rs_mulw x y w hx hy
  generalize (signZ (IntKind.u64.wrap ((signZ ((x : Int)) 32) * (signZ ((y : Int)) 32))) 32 : Int) = z at hc ⊢
  have HC := Lib.hid hc
  clear hc
  go_enter Tryd.func29, Tryd.ntmps29
  go_wp2_with fail
  refine HC.out.mono ?_; rintro e w' ⟨rfl, hb⟩
  have HB := Lib.hid hb
  clear hb
  go_wp2_with fail
  exact bodyPost_ret (v := .tuple #[.int .u64 z, .bool true]) (by simp [results, Tryd.results29, go_sem]) rfl ⟨rfl, HB.out⟩

set_option maxRecDepth 8000 in
theorem rm_divw (x y : Nat) (w : World) (hx : x < 18446744073709551616) (hy : y < 18446744073709551616) :
    Calls Tryd.prog 29 #[.string ⟨#[100, 105, 118, 119]⟩, .int .u64 x, .int .u64 y] w fun e w' => e = .returned (.tuple #[.int .u64 (signZ (quotZ ((signZ ((x : Int)) 32)) ((signZ ((y : Int)) 32)) true) 32), .bool true]) ∧ Below w.heap.size w w' := by
  have hc := rs_divw x y w hx hy
  generalize (signZ (quotZ ((signZ ((x : Int)) 32)) ((signZ ((y : Int)) 32)) true) 32 : Int) = z at hc ⊢
  have HC := Lib.hid hc
  clear hc
  go_enter Tryd.func29, Tryd.ntmps29
  go_wp2_with fail
  refine HC.out.mono ?_; rintro e w' ⟨rfl, hb⟩
  have HB := Lib.hid hb
  clear hb
  go_wp2_with fail
  exact bodyPost_ret (v := .tuple #[.int .u64 z, .bool true]) (by simp [results, Tryd.results29, go_sem]) rfl ⟨rfl, HB.out⟩

set_option maxRecDepth 8000 in
theorem rm_divuw (x y : Nat) (w : World) (hx : x < 18446744073709551616) (hy : y < 18446744073709551616) :
    Calls Tryd.prog 29 #[.string ⟨#[100, 105, 118, 117, 119]⟩, .int .u64 x, .int .u64 y] w fun e w' => e = .returned (.tuple #[.int .u64 (signZ (quotZ ((bitsZ ((x : Int)) 0 32)) ((bitsZ ((y : Int)) 0 32)) false) 32), .bool true]) ∧ Below w.heap.size w w' := by
  have hc := rs_divuw x y w hx hy
  generalize (signZ (quotZ ((bitsZ ((x : Int)) 0 32)) ((bitsZ ((y : Int)) 0 32)) false) 32 : Int) = z at hc ⊢
  have HC := Lib.hid hc
  clear hc
  go_enter Tryd.func29, Tryd.ntmps29
  go_wp2_with fail
  refine HC.out.mono ?_; rintro e w' ⟨rfl, hb⟩
  have HB := Lib.hid hb
  clear hb
  go_wp2_with fail
  exact bodyPost_ret (v := .tuple #[.int .u64 z, .bool true]) (by simp [results, Tryd.results29, go_sem]) rfl ⟨rfl, HB.out⟩

set_option maxRecDepth 8000 in
theorem rm_remw (x y : Nat) (w : World) (hx : x < 18446744073709551616) (hy : y < 18446744073709551616) :
    Calls Tryd.prog 29 #[.string ⟨#[114, 101, 109, 119]⟩, .int .u64 x, .int .u64 y] w fun e w' => e = .returned (.tuple #[.int .u64 (signZ (restZ ((signZ ((x : Int)) 32)) ((signZ ((y : Int)) 32)) true) 32), .bool true]) ∧ Below w.heap.size w w' := by
  have hc := rs_remw x y w hx hy
  generalize (signZ (restZ ((signZ ((x : Int)) 32)) ((signZ ((y : Int)) 32)) true) 32 : Int) = z at hc ⊢
  have HC := Lib.hid hc
  clear hc
  go_enter Tryd.func29, Tryd.ntmps29
  go_wp2_with fail
  refine HC.out.mono ?_; rintro e w' ⟨rfl, hb⟩
  have HB := Lib.hid hb
  clear hb
  go_wp2_with fail
  exact bodyPost_ret (v := .tuple #[.int .u64 z, .bool true]) (by simp [results, Tryd.results29, go_sem]) rfl ⟨rfl, HB.out⟩

set_option maxRecDepth 8000 in
theorem rm_remuw (x y : Nat) (w : World) (hx : x < 18446744073709551616) (hy : y < 18446744073709551616) :
    Calls Tryd.prog 29 #[.string ⟨#[114, 101, 109, 117, 119]⟩, .int .u64 x, .int .u64 y] w fun e w' => e = .returned (.tuple #[.int .u64 (signZ (restZ ((bitsZ ((x : Int)) 0 32)) ((bitsZ ((y : Int)) 0 32)) false) 32), .bool true]) ∧ Below w.heap.size w w' := by
  have hc := rs_remuw x y w hx hy
  generalize (signZ (restZ ((bitsZ ((x : Int)) 0 32)) ((bitsZ ((y : Int)) 0 32)) false) 32 : Int) = z at hc ⊢
  have HC := Lib.hid hc
  clear hc
  go_enter Tryd.func29, Tryd.ntmps29
  go_wp2_with fail
  refine HC.out.mono ?_; rintro e w' ⟨rfl, hb⟩
  have HB := Lib.hid hb
  clear hb
  go_wp2_with fail
  exact bodyPost_ret (v := .tuple #[.int .u64 z, .bool true]) (by simp [results, Tryd.results29, go_sem]) rfl ⟨rfl, HB.out⟩

set_option maxRecDepth 8000 in
theorem rm_addiw (x y : Nat) (w : World) (hx : x < 18446744073709551616) (hy : y < 18446744073709551616) :
    Calls Tryd.prog 29 #[.string ⟨#[97, 100, 100, 105, 119]⟩, .int .u64 x, .int .u64 y] w fun e w' => e = .returned (.tuple #[.int .u64 (signZ (IntKind.u64.wrap ((signZ ((x : Int)) 32) + (signZ ((y : Int)) 32))) 32), .bool true]) ∧ Below w.heap.size w w' := by
  have hc := rs_addiw x y w hx hy
  generalize (signZ (IntKind.u64.wrap ((signZ ((x : Int)) 32) + (signZ ((y : Int)) 32))) 32 : Int) = z at hc ⊢
  have HC := Lib.hid hc
  clear hc
  go_enter Tryd.func29, Tryd.ntmps29
  go_wp2_with fail
  refine HC.out.mono ?_; rintro e w' ⟨rfl, hb⟩
  have HB := Lib.hid hb
  clear hb
  go_wp2_with fail
  exact bodyPost_ret (v := .tuple #[.int .u64 z, .bool true]) (by simp [results, Tryd.results29, go_sem]) rfl ⟨rfl, HB.out⟩

set_option maxRecDepth 8000 in
theorem rm_slliw (x y : Nat) (w : World) (hx : x < 18446744073709551616) (hy : y < 18446744073709551616) :
    Calls Tryd.prog 29 #[.string ⟨#[115, 108, 108, 105, 119]⟩, .int .u64 x, .int .u64 y] w fun e w' => e = .returned (.tuple #[.int .u64 (signZ (IntKind.u64.wrap ((signZ ((x : Int)) 32) * 2 ^ ((signZ ((y : Int)) 32) % 32).toNat)) 32), .bool true]) ∧ Below w.heap.size w w' := by
  have hc := rs_slliw x y w hx hy
  generalize (signZ (IntKind.u64.wrap ((signZ ((x : Int)) 32) * 2 ^ ((signZ ((y : Int)) 32) % 32).toNat)) 32 : Int) = z at hc ⊢
  have HC := Lib.hid hc
  clear hc
  go_enter Tryd.func29, Tryd.ntmps29
  go_wp2_with fail
  refine HC.out.mono ?_; rintro e w' ⟨rfl, hb⟩
  have HB := Lib.hid hb
  clear hb
  go_wp2_with fail
  exact bodyPost_ret (v := .tuple #[.int .u64 z, .bool true]) (by simp [results, Tryd.results29, go_sem]) rfl ⟨rfl, HB.out⟩

set_option maxRecDepth 8000 in
theorem rm_srliw (x y : Nat) (w : World) (hx : x < 18446744073709551616) (hy : y < 18446744073709551616) :
    Calls Tryd.prog 29 #[.string ⟨#[115, 114, 108, 105, 119]⟩, .int .u64 x, .int .u64 y] w fun e w' => e = .returned (.tuple #[.int .u64 (signZ ((bitsZ ((x : Int)) 0 32) / 2 ^ ((bitsZ ((y : Int)) 0 32) % 32).toNat) 32), .bool true]) ∧ Below w.heap.size w w' := by
  have hc := rs_srliw x y w hx hy
  generalize (signZ ((bitsZ ((x : Int)) 0 32) / 2 ^ ((bitsZ ((y : Int)) 0 32) % 32).toNat) 32 : Int) = z at hc ⊢
  have HC := Lib.hid hc
  clear hc
  go_enter Tryd.func29, Tryd.ntmps29
  go_wp2_with fail
  refine HC.out.mono ?_; rintro e w' ⟨rfl, hb⟩
  have HB := Lib.hid hb
  clear hb
  go_wp2_with fail
  exact bodyPost_ret (v := .tuple #[.int .u64 z, .bool true]) (by simp [results, Tryd.results29, go_sem]) rfl ⟨rfl, HB.out⟩

set_option maxRecDepth 8000 in
theorem rm_sraiw (x y : Nat) (w : World) (hx : x < 18446744073709551616) (hy : y < 18446744073709551616) :
    Calls Tryd.prog 29 #[.string ⟨#[115, 114, 97, 105, 119]⟩, .int .u64 x, .int .u64 y] w fun e w' => e = .returned (.tuple #[.int .u64 (signZ (IntKind.u64.wrap (wrap64 ((signZ ((x : Int)) 32)) / 2 ^ ((signZ ((y : Int)) 32) % 32).toNat)) 32), .bool true]) ∧ Below w.heap.size w w' := by
  have hc := rs_sraiw x y w hx hy
  generalize (signZ (IntKind.u64.wrap (wrap64 ((signZ ((x : Int)) 32)) / 2 ^ ((signZ ((y : Int)) 32) % 32).toNat)) 32 : Int) = z at hc ⊢
  have HC := Lib.hid hc
  clear hc
  go_enter Tryd.func29, Tryd.ntmps29
  go_wp2_with fail
  refine HC.out.mono ?_; rintro e w' ⟨rfl, hb⟩
  have HB := Lib.hid hb
  clear hb
  go_wp2_with fail
  exact bodyPost_ret (v := .tuple #[.int .u64 z, .bool true]) (by simp [results, Tryd.results29, go_sem]) rfl ⟨rfl, HB.out⟩

set_option maxRecDepth 8000 in
theorem rk_addw (x y : Nat) (w : World) (hx : x < 18446744073709551616) (hy : y < 18446744073709551616) :
    Calls Tryd.prog 13 #[.string ⟨#[97, 100, 100, 119]⟩, .int .u64 x, .int .u64 y] w fun e w' => e = .returned (.tuple #[.int .u64 (signZ (IntKind.u64.wrap ((signZ ((x : Int)) 32) + (signZ ((y : Int)) 32))) 32), .bool true]) ∧ Below w.heap.size w w' := by
  have hc := rm_addw x y w hx hy
  generalize (signZ (IntKind.u64.wrap ((signZ ((x : Int)) 32) + (signZ ((y : Int)) 32))) 32 : Int) = z at hc ⊢
  have HC := Lib.hid hc
  clear hc
  go_enter Tryd.func13, Tryd.ntmps13
  go_wp2_with fail
  refine HC.out.mono ?_; rintro e w' ⟨rfl, hb⟩
  have HB := Lib.hid hb
  clear hb
  go_wp2_with fail
  exact bodyPost_ret (v := .tuple #[.int .u64 z, .bool true]) (by simp [results, Tryd.results13, go_sem]) rfl ⟨rfl, HB.out⟩

set_option maxRecDepth 8000 in
theorem rk_subw (x y : Nat) (w : World) (hx : x < 18446744073709551616) (hy : y < 18446744073709551616) :
    Calls Tryd.prog 13 #[.string ⟨#[115, 117, 98, 119]⟩, .int .u64 x, .int .u64 y] w fun e w' => e = .returned (.tuple #[.int .u64 (signZ (IntKind.u64.wrap ((signZ ((x : Int)) 32) - (signZ ((y : Int)) 32))) 32), .bool true]) ∧ Below w.heap.size w w' := by
  have hc := rm_subw x y w hx hy
  generalize (signZ (IntKind.u64.wrap ((signZ ((x : Int)) 32) - (signZ ((y : Int)) 32))) 32 : Int) = z at hc ⊢
  have HC := Lib.hid hc
  clear hc
  go_enter Tryd.func13, Tryd.ntmps13
  go_wp2_with fail
  refine HC.out.mono ?_; rintro e w' ⟨rfl, hb⟩
  have HB := Lib.hid hb
  clear hb
  go_wp2_with fail
  exact bodyPost_ret (v := .tuple #[.int .u64 z, .bool true]) (by simp [results, Tryd.results13, go_sem]) rfl ⟨rfl, HB.out⟩

set_option maxRecDepth 8000 in
theorem rk_sllw (x y : Nat) (w : World) (hx : x < 18446744073709551616) (hy : y < 18446744073709551616) :
    Calls Tryd.prog 13 #[.string ⟨#[115, 108, 108, 119]⟩, .int .u64 x, .int .u64 y] w fun e w' => e = .returned (.tuple #[.int .u64 (signZ (IntKind.u64.wrap ((signZ ((x : Int)) 32) * 2 ^ ((signZ ((y : Int)) 32) % 32).toNat)) 32), .bool true]) ∧ Below w.heap.size w w' := by
  have hc := rm_sllw x y w hx hy
  generalize (signZ (IntKind.u64.wrap ((signZ ((x : Int)) 32) * 2 ^ ((signZ ((y : Int)) 32) % 32).toNat)) 32 : Int) = z at hc ⊢
  have HC := Lib.hid hc
  clear hc
  go_enter Tryd.func13, Tryd.ntmps13
  go_wp2_with fail
  refine HC.out.mono ?_; rintro e w' ⟨rfl, hb⟩
  have HB := Lib.hid hb
  clear hb
  go_wp2_with fail
  exact bodyPost_ret (v := .tuple #[.int .u64 z, .bool true]) (by simp [results, Tryd.results13, go_sem]) rfl ⟨rfl, HB.out⟩

set_option maxRecDepth 8000 in
theorem rk_srlw (x y : Nat) (w : World) (hx : x < 18446744073709551616) (hy : y < 18446744073709551616) :
    Calls Tryd.prog 13 #[.string ⟨#[115, 114, 108, 119]⟩, .int .u64 x, .int .u64 y] w fun e w' => e = .returned (.tuple #[.int .u64 (signZ ((bitsZ ((x : Int)) 0 32) / 2 ^ ((bitsZ ((y : Int)) 0 32) % 32).toNat) 32), .bool true]) ∧ Below w.heap.size w w' := by
  have hc := rm_srlw x y w hx hy
  generalize (signZ ((bitsZ ((x : Int)) 0 32) / 2 ^ ((bitsZ ((y : Int)) 0 32) % 32).toNat) 32 : Int) = z at hc ⊢
  have HC := Lib.hid hc
  clear hc
  go_enter Tryd.func13, Tryd.ntmps13
  go_wp2_with fail
  refine HC.out.mono ?_; rintro e w' ⟨rfl, hb⟩
  have HB := Lib.hid hb
  clear hb
  go_wp2_with fail
  exact bodyPost_ret (v := .tuple #[.int .u64 z, .bool true]) (by simp [results, Tryd.results13, go_sem]) rfl ⟨rfl, HB.out⟩

set_option maxRecDepth 8000 in
theorem rk_sraw (x y : Nat) (w : World) (hx : x < 18446744073709551616) (hy : y < 18446744073709551616) :
    Calls Tryd.prog 13 #[.string ⟨#[115, 114, 97, 119]⟩, .int .u64 x, .int .u64 y] w fun e w' => e = .returned (.tuple #[.int .u64 (signZ (IntKind.u64.wrap (wrap64 ((signZ ((x : Int)) 32)) / 2 ^ ((signZ ((y : Int)) 32) % 32).toNat)) 32), .bool true]) ∧ Below w.heap.size w w' := by
  have hc := rm_sraw x y w hx hy
  generalize (signZ (IntKind.u64.wrap (wrap64 ((signZ ((x : Int)) 32)) / 2 ^ ((signZ ((y : Int)) 32) % 32).toNat)) 32 : Int) = z at hc ⊢
  have HC := Lib.hid hc
  clear hc
  go_enter Tryd.func13, Tryd.ntmps13
  go_wp2_with fail
  refine HC.out.mono ?_; rintro e w' ⟨rfl, hb⟩
  have HB := Lib.hid hb
  clear hb
  go_wp2_with fail
  exact bodyPost_ret (v := .tuple #[.int .u64 z, .bool true]) (by simp [results, Tryd.results13, go_sem]) rfl ⟨rfl, HB.out⟩

set_option maxRecDepth 8000 in
theorem rk_mulw (x y : Nat) (w : World) (hx : x < 18446744073709551616) (hy : y < 18446744073709551616) :
    Calls Tryd.prog 13 #[.string ⟨#[109, 117, 108, 119]⟩, .int .u64 x, .int .u64 y] w fun e w' => e = .returned (.tuple #[.int .u64 (signZ (IntKind.u64.wrap ((signZ ((x : Int)) 32) * (signZ ((y : Int)) 32))) 32), .bool true]) ∧ Below w.heap.size w w' := by
  have hc := rm_mulw x y w hx hy
  generalize (signZ (IntKind.u64.wrap ((signZ ((x : Int)) 32) * (signZ ((y : Int)) 32))) 32 : Int) = z at hc ⊢
  have HC := Lib.hid hc
  clear hc
  go_enter Tryd.func13, Tryd.ntmps13
  go_wp2_with fail
  refine HC.out.mono ?_; rintro e w' ⟨rfl, hb⟩
  have HB := Lib.hid hb
  clear hb
  go_wp2_with fail
  exact bodyPost_ret (v := .tuple #[.int .u64 z, .bool true]) (by simp [results, Tryd.results13, go_sem]) rfl ⟨rfl, HB.out⟩

set_option maxRecDepth 8000 in
theorem rk_divw (x y : Nat) (w : World) (hx : x < 18446744073709551616) (hy : y < 18446744073709551616) :
    Calls Tryd.prog 13 #[.string ⟨#[100, 105, 118, 119]⟩, .int .u64 x, .int .u64 y] w fun e w' => e = .returned (.tuple #[.int .u64 (signZ (quotZ ((signZ ((x : Int)) 32)) ((signZ ((y : Int)) 32)) true) 32), .bool true]) ∧ Below w.heap.size w w' := by
  have hc := rm_divw x y w hx hy
  generalize (signZ (quotZ ((signZ ((x : Int)) 32)) ((signZ ((y : Int)) 32)) true) 32 : Int) = z at hc ⊢
  have HC := Lib.hid hc
  clear hc
  go_enter Tryd.func13, Tryd.ntmps13
  go_wp2_with fail
  refine HC.out.mono ?_; rintro e w' ⟨rfl, hb⟩
  have HB := Lib.hid hb
  clear hb
  go_wp2_with fail
  exact bodyPost_ret (v := .tuple #[.int .u64 z, .bool true]) (by simp [results, Tryd.results13, go_sem]) rfl ⟨rfl, HB.out⟩

set_option maxRecDepth 8000 in
theorem rk_divuw (x y : Nat) (w : World) (hx : x < 18446744073709551616) (hy : y < 18446744073709551616) :
    Calls Tryd.prog 13 #[.string ⟨#[100, 105, 118, 117, 119]⟩, .int .u64 x, .int .u64 y] w fun e w' => e = .returned (.tuple #[.int .u64 (signZ (quotZ ((bitsZ ((x : Int)) 0 32)) ((bitsZ ((y : Int)) 0 32)) false) 32), .bool true]) ∧ Below w.heap.size w w' := by
  have hc := rm_divuw x y w hx hy
  generalize (signZ (quotZ ((bitsZ ((x : Int)) 0 32)) ((bitsZ ((y : Int)) 0 32)) false) 32 : Int) = z at hc ⊢
  have HC := Lib.hid hc
  clear hc
  go_enter Tryd.func13, Tryd.ntmps13
  go_wp2_with fail
  refine HC.out.mono ?_; rintro e w' ⟨rfl, hb⟩
  have HB := Lib.hid hb
  clear hb
  go_wp2_with fail
  exact bodyPost_ret (v := .tuple #[.int .u64 z, .bool true]) (by simp [results, Tryd.results13, go_sem]) rfl ⟨rfl, HB.out⟩

set_option maxRecDepth 8000 in
theorem rk_remw (x y : Nat) (w : World) (hx : x < 18446744073709551616) (hy : y < 18446744073709551616) :
    Calls Tryd.prog 13 #[.string ⟨#[114, 101, 109, 119]⟩, .int .u64 x, .int .u64 y] w fun e w' => e = .returned (.tuple #[.int .u64 (signZ (restZ ((signZ ((x : Int)) 32)) ((signZ ((y : Int)) 32)) true) 32), .bool true]) ∧ Below w.heap.size w w' := by
  have hc := rm_remw x y w hx hy
  generalize (signZ (restZ ((signZ ((x : Int)) 32)) ((signZ ((y : Int)) 32)) true) 32 : Int) = z at hc ⊢
  have HC := Lib.hid hc
  clear hc
  go_enter Tryd.func13, Tryd.ntmps13
  go_wp2_with fail
  refine HC.out.mono ?_; rintro e w' ⟨rfl, hb⟩
  have HB := Lib.hid hb
  clear hb
  go_wp2_with fail
  exact bodyPost_ret (v := .tuple #[.int .u64 z, .bool true]) (by simp [results, Tryd.results13, go_sem]) rfl ⟨rfl, HB.out⟩

set_option maxRecDepth 8000 in
theorem rk_remuw (x y : Nat) (w : World) (hx : x < 18446744073709551616) (hy : y < 18446744073709551616) :
    Calls Tryd.prog 13 #[.string ⟨#[114, 101, 109, 117, 119]⟩, .int .u64 x, .int .u64 y] w fun e w' => e = .returned (.tuple #[.int .u64 (signZ (restZ ((bitsZ ((x : Int)) 0 32)) ((bitsZ ((y : Int)) 0 32)) false) 32), .bool true]) ∧ Below w.heap.size w w' := by
  have hc := rm_remuw x y w hx hy
  generalize (signZ (restZ ((bitsZ ((x : Int)) 0 32)) ((bitsZ ((y : Int)) 0 32)) false) 32 : Int) = z at hc ⊢
  have HC := Lib.hid hc
  clear hc
  go_enter Tryd.func13, Tryd.ntmps13
  go_wp2_with fail
  refine HC.out.mono ?_; rintro e w' ⟨rfl, hb⟩
  have HB := Lib.hid hb
  clear hb
  go_wp2_with fail
  exact bodyPost_ret (v := .tuple #[.int .u64 z, .bool true]) (by simp [results, Tryd.results13, go_sem]) rfl ⟨rfl, HB.out⟩

set_option maxRecDepth 8000 in
theorem rk_addiw (x y : Nat) (w : World) (hx : x < 18446744073709551616) (hy : y < 18446744073709551616) :
    Calls Tryd.prog 13 #[.string ⟨#[97, 100, 100, 105, 119]⟩, .int .u64 x, .int .u64 y] w fun e w' => e = .returned (.tuple #[.int .u64 (signZ (IntKind.u64.wrap ((signZ ((x : Int)) 32) + (signZ ((y : Int)) 32))) 32), .bool true]) ∧ Below w.heap.size w w' := by
  have hc := rm_addiw x y w hx hy
  generalize (signZ (IntKind.u64.wrap ((signZ ((x : Int)) 32) + (signZ ((y : Int)) 32))) 32 : Int) = z at hc ⊢
  have HC := Lib.hid hc
  clear hc
  go_enter Tryd.func13, Tryd.ntmps13
  go_wp2_with fail
  refine HC.out.mono ?_; rintro e w' ⟨rfl, hb⟩
  have HB := Lib.hid hb
  clear hb
  go_wp2_with fail
  exact bodyPost_ret (v := .tuple #[.int .u64 z, .bool true]) (by simp [results, Tryd.results13, go_sem]) rfl ⟨rfl, HB.out⟩

set_option maxRecDepth 8000 in
theorem rk_slliw (x y : Nat) (w : World) (hx : x < 18446744073709551616) (hy : y < 18446744073709551616) :
    Calls Tryd.prog 13 #[.string ⟨#[115, 108, 108, 105, 119]⟩, .int .u64 x, .int .u64 y] w fun e w' => e = .returned (.tuple #[.int .u64 (signZ (IntKind.u64.wrap ((signZ ((x : Int)) 32) * 2 ^ ((signZ ((y : Int)) 32) % 32).toNat)) 32), .bool true]) ∧ Below w.heap.size w w' := by
  have hc := rm_slliw x y w hx hy
  generalize (signZ (IntKind.u64.wrap ((signZ ((x : Int)) 32) * 2 ^ ((signZ ((y : Int)) 32) % 32).toNat)) 32 : Int) = z at hc ⊢
  have HC := Lib.hid hc
  clear hc
  go_enter Tryd.func13, Tryd.ntmps13
  go_wp2_with fail
  refine HC.out.mono ?_; rintro e w' ⟨rfl, hb⟩
  have HB := Lib.hid hb
  clear hb
  go_wp2_with fail
  exact bodyPost_ret (v := .tuple #[.int .u64 z, .bool true]) (by simp [results, Tryd.results13, go_sem]) rfl ⟨rfl, HB.out⟩

set_option maxRecDepth 8000 in
theorem rk_srliw (x y : Nat) (w : World) (hx : x < 18446744073709551616) (hy : y < 18446744073709551616) :
    Calls Tryd.prog 13 #[.string ⟨#[115, 114, 108, 105, 119]⟩, .int .u64 x, .int .u64 y] w fun e w' => e = .returned (.tuple #[.int .u64 (signZ ((bitsZ ((x : Int)) 0 32) / 2 ^ ((bitsZ ((y : Int)) 0 32) % 32).toNat) 32), .bool true]) ∧ Below w.heap.size w w' := by
  have hc := rm_srliw x y w hx hy
  generalize (signZ ((bitsZ ((x : Int)) 0 32) / 2 ^ ((bitsZ ((y : Int)) 0 32) % 32).toNat) 32 : Int) = z at hc ⊢
  have HC := Lib.hid hc
  clear hc
  go_enter Tryd.func13, Tryd.ntmps13
  go_wp2_with fail
  refine HC.out.mono ?_; rintro e w' ⟨rfl, hb⟩
  have HB := Lib.hid hb
  clear hb
  go_wp2_with fail
  exact bodyPost_ret (v := .tuple #[.int .u64 z, .bool true]) (by simp [results, Tryd.results13, go_sem]) rfl ⟨rfl, HB.out⟩

set_option maxRecDepth 8000 in
theorem rk_sraiw (x y : Nat) (w : World) (hx : x < 18446744073709551616) (hy : y < 18446744073709551616) :
    Calls Tryd.prog 13 #[.string ⟨#[115, 114, 97, 105, 119]⟩, .int .u64 x, .int .u64 y] w fun e w' => e = .returned (.tuple #[.int .u64 (signZ (IntKind.u64.wrap (wrap64 ((signZ ((x : Int)) 32)) / 2 ^ ((signZ ((y : Int)) 32) % 32).toNat)) 32), .bool true]) ∧ Below w.heap.size w w' := by
  have hc := rm_sraiw x y w hx hy
  generalize (signZ (IntKind.u64.wrap (wrap64 ((signZ ((x : Int)) 32)) / 2 ^ ((signZ ((y : Int)) 32) % 32).toNat)) 32 : Int) = z at hc ⊢
  have HC := Lib.hid hc
  clear hc
  go_enter Tryd.func13, Tryd.ntmps13
  go_wp2_with fail
  refine HC.out.mono ?_; rintro e w' ⟨rfl, hb⟩
  have HB := Lib.hid hb
  clear hb
  go_wp2_with fail
  exact bodyPost_ret (v := .tuple #[.int .u64 z, .bool true]) (by simp [results, Tryd.results13, go_sem]) rfl ⟨rfl, HB.out⟩

end Go.Proofs.YtoijhhacgafblabDoor
