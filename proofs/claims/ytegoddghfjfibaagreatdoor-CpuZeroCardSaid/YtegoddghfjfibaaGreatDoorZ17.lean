/- AluD -/
import Derived.Test.YtegoddghfjfibaaGreatDoorZ16
namespace Go.Proofs.YtegoddghfjfibaaGreatDoor.Al
set_option linter.unusedVariables false
set_option linter.unusedSimpArgs false
open Go.ChangeShapes Go.WideShapes Go.ChangeAt Go.RowKit

theorem bits_in (o : BinOp) (a b : Int) : Inw (bits o .u64 a b) := by unfold bits; exact wrap_u64_in _
theorem num_in (o : Bool) : Inw (numZ o) := by cases o <;> decide
theorem div_in {a : Int} (h : Inw a) (n : Nat) : Inw (a / 2 ^ n) := by
  obtain ⟨x, rfl⟩ := Int.eq_ofNat_of_zero_le h.1
  have := h.2
  have e := ediv_nat x n
  have hq := Nat.div_le_self x (2 ^ n)
  generalize x / 2 ^ n = q at e hq
  exact ⟨by rw [e]; omega, by rw [e]; omega⟩
theorem quot_in (a b : Int) (s : Bool) (h0 : 0 ≤ a) (h1 : a < 18446744073709551616) (h2 : 0 ≤ b) (h3 : b < 18446744073709551616) : Inw (quotZ a b s) := by
  have ma := mag_in a s h0 h1
  have mb := mag_in b s h2 h3
  unfold quotZ
  split
  · decide
  · split
    · constructor <;> omega
    · generalize mag a s = x at *
      generalize mag b s = y at *
      exact ⟨Int.ediv_nonneg ma.1 mb.1, Int.lt_of_le_of_lt (Int.ediv_le_self _ ma.1) ma.2⟩
theorem rest_in (a b : Int) (s : Bool) (h0 : 0 ≤ a) (h1 : a < 18446744073709551616) (h2 : 0 ≤ b) (h3 : b < 18446744073709551616) : Inw (restZ a b s) := by
  have ma := mag_in a s h0 h1
  have mb := mag_in b s h2 h3
  unfold restZ
  split
  · exact ⟨h0, h1⟩
  · split
    · constructor <;> omega
    · generalize mag a s = x at *
      generalize mag b s = y at *
      obtain ⟨n, rfl⟩ := Int.eq_ofNat_of_zero_le ma.1
      obtain ⟨m, rfl⟩ := Int.eq_ofNat_of_zero_le mb.1
      have := Nat.mod_le n m
      have e : ((n : Int) % (m : Int)) = ((n % m : Nat) : Int) := rfl
      rw [e]
      constructor <;> omega

def zSum (a b : Int) : Int := IntKind.u64.wrap (a + b)
def zDifference (a b : Int) : Int := IntKind.u64.wrap (a - b)
def zAnd (a b : Int) : Int := bits .and .u64 a b
def zOr (a b : Int) : Int := bits .or .u64 a b
def zXor (a b : Int) : Int := bits .xor .u64 a b
def zProduct (a b : Int) : Int := IntKind.u64.wrap (a * b)
def zBelow (a b : Int) : Int := numZ (decide (wrap64 a < wrap64 b))
def zBelowPlain (a b : Int) : Int := numZ (decide (a < b))
def zLeft (a b : Int) : Int := IntKind.u64.wrap (a * 2 ^ (b % 64).toNat)
def zRight (a b : Int) : Int := a / 2 ^ (b % 64).toNat
def zRightSigned (a b : Int) : Int := IntKind.u64.wrap (wrap64 a / 2 ^ (b % 64).toNat)
def zLeftNarrow (a b : Int) : Int := IntKind.u64.wrap (a * 2 ^ (b % 32).toNat)
def zRightNarrow (a b : Int) : Int := a / 2 ^ (b % 32).toNat
def zRightSignedNarrow (a b : Int) : Int := IntKind.u64.wrap (wrap64 a / 2 ^ (b % 32).toNat)
def zHigh (a b : Int) : Int := highZ a b true true
def zHighMixed (a b : Int) : Int := highZ a b true false
def zHighPlain (a b : Int) : Int := highZ a b false false
def zQuotient (a b : Int) : Int := quotZ a b true
def zQuotientPlain (a b : Int) : Int := quotZ a b false
def zRest (a b : Int) : Int := restZ a b true
def zRestPlain (a b : Int) : Int := restZ a b false
def zWhole (a : Int) : Int := a
def zSigned (a : Int) : Int := signZ a 32
def zPlain (a : Int) : Int := bitsZ a 0 32
theorem d_whole : Does1 197 zWhole := ⟨fun x h => h, fun x w h => c_whole x w h.1 h.2⟩
theorem d_signed : Does1 216 zSigned := ⟨fun x _ => signZ_in _ _, fun x w h => c_signed x w h.1 h.2⟩
theorem d_plain : Does1 218 zPlain := ⟨fun x _ => bitsZ_in _ _ _, fun x w h => c_plain x w h.1 h.2⟩
theorem d_sum : Does2 198 zSum := ⟨fun a b ha hb => wrap_u64_in _, fun a b w ha hb => c_sum a b w ha.1 ha.2 hb.1 hb.2⟩
theorem d_difference : Does2 199 zDifference := ⟨fun a b ha hb => wrap_u64_in _, fun a b w ha hb => c_difference a b w ha.1 ha.2 hb.1 hb.2⟩
theorem d_and : Does2 207 zAnd := ⟨fun a b ha hb => bits_in _ _ _, fun a b w ha hb => c_and a b w ha.1 ha.2 hb.1 hb.2⟩
theorem d_or : Does2 206 zOr := ⟨fun a b ha hb => bits_in _ _ _, fun a b w ha hb => c_or a b w ha.1 ha.2 hb.1 hb.2⟩
theorem d_xor : Does2 203 zXor := ⟨fun a b ha hb => bits_in _ _ _, fun a b w ha hb => c_xor a b w ha.1 ha.2 hb.1 hb.2⟩
theorem d_product : Does2 208 zProduct := ⟨fun a b ha hb => wrap_u64_in _, fun a b w ha hb => c_product a b w ha.1 ha.2 hb.1 hb.2⟩
theorem d_below : Does2 201 zBelow := ⟨fun a b ha hb => num_in _, fun a b w ha hb => c_below a b w ha.1 ha.2 hb.1 hb.2⟩
theorem d_belowPlain : Does2 202 zBelowPlain := ⟨fun a b ha hb => num_in _, fun a b w ha hb => c_belowPlain a b w ha.1 ha.2 hb.1 hb.2⟩
theorem d_left : Does2 200 zLeft := ⟨fun a b ha hb => wrap_u64_in _, fun a b w ha hb => c_left a b w ha.1 ha.2 hb.1 hb.2⟩
theorem d_right : Does2 204 zRight := ⟨fun a b ha hb => div_in ha _, fun a b w ha hb => c_right a b w ha.1 ha.2 hb.1 hb.2⟩
theorem d_rightSigned : Does2 205 zRightSigned := ⟨fun a b ha hb => wrap_u64_in _, fun a b w ha hb => c_rightSigned a b w ha.1 ha.2 hb.1 hb.2⟩
theorem d_leftNarrow : Does2 217 zLeftNarrow := ⟨fun a b ha hb => wrap_u64_in _, fun a b w ha hb => c_leftNarrow a b w ha.1 ha.2 hb.1 hb.2⟩
theorem d_rightNarrow : Does2 219 zRightNarrow := ⟨fun a b ha hb => div_in ha _, fun a b w ha hb => c_rightNarrow a b w ha.1 ha.2 hb.1 hb.2⟩
theorem d_rightSignedNarrow : Does2 220 zRightSignedNarrow := ⟨fun a b ha hb => wrap_u64_in _, fun a b w ha hb => c_rightSignedNarrow a b w ha.1 ha.2 hb.1 hb.2⟩
theorem d_high : Does2 209 zHigh := ⟨fun a b ha hb => highZ_in _ _ _ _, fun a b w ha hb => c_high a b w ha.1 ha.2 hb.1 hb.2⟩
theorem d_highMixed : Does2 210 zHighMixed := ⟨fun a b ha hb => highZ_in _ _ _ _, fun a b w ha hb => c_highMixed a b w ha.1 ha.2 hb.1 hb.2⟩
theorem d_highPlain : Does2 211 zHighPlain := ⟨fun a b ha hb => highZ_in _ _ _ _, fun a b w ha hb => c_highPlain a b w ha.1 ha.2 hb.1 hb.2⟩
theorem d_quotient : Does2 212 zQuotient := ⟨fun a b ha hb => quot_in _ _ _ ha.1 ha.2 hb.1 hb.2, fun a b w ha hb => c_quotient a b w ha.1 ha.2 hb.1 hb.2⟩
theorem d_quotientPlain : Does2 213 zQuotientPlain := ⟨fun a b ha hb => quot_in _ _ _ ha.1 ha.2 hb.1 hb.2, fun a b w ha hb => c_quotientPlain a b w ha.1 ha.2 hb.1 hb.2⟩
theorem d_rest : Does2 214 zRest := ⟨fun a b ha hb => rest_in _ _ _ ha.1 ha.2 hb.1 hb.2, fun a b w ha hb => c_rest a b w ha.1 ha.2 hb.1 hb.2⟩
theorem d_restPlain : Does2 215 zRestPlain := ⟨fun a b ha hb => rest_in _ _ _ ha.1 ha.2 hb.1 hb.2, fun a b w ha hb => c_restPlain a b w ha.1 ha.2 hb.1 hb.2⟩
theorem e_whole : ∀ args W, (callFunc 197 args).run Tryz.prog W = .ok (.enter 197 args) W := fun _ _ => by kernel_rfl
theorem e_signed : ∀ args W, (callFunc 216 args).run Tryz.prog W = .ok (.enter 216 args) W := fun _ _ => by kernel_rfl
theorem e_plain : ∀ args W, (callFunc 218 args).run Tryz.prog W = .ok (.enter 218 args) W := fun _ _ => by kernel_rfl
theorem e_sum : ∀ args W, (callFunc 198 args).run Tryz.prog W = .ok (.enter 198 args) W := fun _ _ => by kernel_rfl
theorem e_difference : ∀ args W, (callFunc 199 args).run Tryz.prog W = .ok (.enter 199 args) W := fun _ _ => by kernel_rfl
theorem e_and : ∀ args W, (callFunc 207 args).run Tryz.prog W = .ok (.enter 207 args) W := fun _ _ => by kernel_rfl
theorem e_or : ∀ args W, (callFunc 206 args).run Tryz.prog W = .ok (.enter 206 args) W := fun _ _ => by kernel_rfl
theorem e_xor : ∀ args W, (callFunc 203 args).run Tryz.prog W = .ok (.enter 203 args) W := fun _ _ => by kernel_rfl
theorem e_product : ∀ args W, (callFunc 208 args).run Tryz.prog W = .ok (.enter 208 args) W := fun _ _ => by kernel_rfl
theorem e_below : ∀ args W, (callFunc 201 args).run Tryz.prog W = .ok (.enter 201 args) W := fun _ _ => by kernel_rfl
theorem e_belowPlain : ∀ args W, (callFunc 202 args).run Tryz.prog W = .ok (.enter 202 args) W := fun _ _ => by kernel_rfl
theorem e_left : ∀ args W, (callFunc 200 args).run Tryz.prog W = .ok (.enter 200 args) W := fun _ _ => by kernel_rfl
theorem e_right : ∀ args W, (callFunc 204 args).run Tryz.prog W = .ok (.enter 204 args) W := fun _ _ => by kernel_rfl
theorem e_rightSigned : ∀ args W, (callFunc 205 args).run Tryz.prog W = .ok (.enter 205 args) W := fun _ _ => by kernel_rfl
theorem e_leftNarrow : ∀ args W, (callFunc 217 args).run Tryz.prog W = .ok (.enter 217 args) W := fun _ _ => by kernel_rfl
theorem e_rightNarrow : ∀ args W, (callFunc 219 args).run Tryz.prog W = .ok (.enter 219 args) W := fun _ _ => by kernel_rfl
theorem e_rightSignedNarrow : ∀ args W, (callFunc 220 args).run Tryz.prog W = .ok (.enter 220 args) W := fun _ _ => by kernel_rfl
theorem e_high : ∀ args W, (callFunc 209 args).run Tryz.prog W = .ok (.enter 209 args) W := fun _ _ => by kernel_rfl
theorem e_highMixed : ∀ args W, (callFunc 210 args).run Tryz.prog W = .ok (.enter 210 args) W := fun _ _ => by kernel_rfl
theorem e_highPlain : ∀ args W, (callFunc 211 args).run Tryz.prog W = .ok (.enter 211 args) W := fun _ _ => by kernel_rfl
theorem e_quotient : ∀ args W, (callFunc 212 args).run Tryz.prog W = .ok (.enter 212 args) W := fun _ _ => by kernel_rfl
theorem e_quotientPlain : ∀ args W, (callFunc 213 args).run Tryz.prog W = .ok (.enter 213 args) W := fun _ _ => by kernel_rfl
theorem e_rest : ∀ args W, (callFunc 214 args).run Tryz.prog W = .ok (.enter 214 args) W := fun _ _ => by kernel_rfl
theorem e_restPlain : ∀ args W, (callFunc 215 args).run Tryz.prog W = .ok (.enter 215 args) W := fun _ _ => by kernel_rfl
def reckZ (op : Nat) (a b : Int) : Int := match op with
  | 1 => zWhole (zSum (zWhole a) (zWhole b))
  | 2 => zWhole (zDifference (zWhole a) (zWhole b))
  | 3 => zWhole (zLeft (zWhole a) (zWhole b))
  | 4 => zWhole (zBelow (zWhole a) (zWhole b))
  | 5 => zWhole (zBelowPlain (zWhole a) (zWhole b))
  | 6 => zWhole (zXor (zWhole a) (zWhole b))
  | 7 => zWhole (zRight (zWhole a) (zWhole b))
  | 8 => zWhole (zRightSigned (zWhole a) (zWhole b))
  | 9 => zWhole (zOr (zWhole a) (zWhole b))
  | 10 => zWhole (zAnd (zWhole a) (zWhole b))
  | 11 => zWhole (zProduct (zWhole a) (zWhole b))
  | 12 => zWhole (zHigh (zWhole a) (zWhole b))
  | 13 => zWhole (zHighMixed (zWhole a) (zWhole b))
  | 14 => zWhole (zHighPlain (zWhole a) (zWhole b))
  | 15 => zWhole (zQuotient (zWhole a) (zWhole b))
  | 16 => zWhole (zQuotientPlain (zWhole a) (zWhole b))
  | 17 => zWhole (zRest (zWhole a) (zWhole b))
  | 18 => zWhole (zRestPlain (zWhole a) (zWhole b))
  | 19 => zSigned (zSum (zSigned a) (zSigned b))
  | 20 => zSigned (zDifference (zSigned a) (zSigned b))
  | 21 => zSigned (zLeftNarrow (zSigned a) (zSigned b))
  | 22 => zSigned (zRightNarrow (zPlain a) (zPlain b))
  | 23 => zSigned (zRightSignedNarrow (zSigned a) (zSigned b))
  | 24 => zSigned (zProduct (zSigned a) (zSigned b))
  | 25 => zSigned (zQuotient (zSigned a) (zSigned b))
  | 26 => zSigned (zQuotientPlain (zPlain a) (zPlain b))
  | 27 => zSigned (zRest (zSigned a) (zSigned b))
  | 28 => zSigned (zRestPlain (zPlain a) (zPlain b))
  | 29 => zWhole (zSum (zWhole a) (zWhole b))
  | 30 => zWhole (zBelow (zWhole a) (zWhole b))
  | 31 => zWhole (zBelowPlain (zWhole a) (zWhole b))
  | 32 => zWhole (zXor (zWhole a) (zWhole b))
  | 33 => zWhole (zOr (zWhole a) (zWhole b))
  | 34 => zWhole (zAnd (zWhole a) (zWhole b))
  | 35 => zWhole (zLeft (zWhole a) (zWhole b))
  | 36 => zWhole (zRight (zWhole a) (zWhole b))
  | 37 => zWhole (zRightSigned (zWhole a) (zWhole b))
  | 38 => zSigned (zSum (zSigned a) (zSigned b))
  | 39 => zSigned (zLeftNarrow (zSigned a) (zSigned b))
  | 40 => zSigned (zRightNarrow (zPlain a) (zPlain b))
  | 41 => zSigned (zRightSignedNarrow (zSigned a) (zSigned b))
  | _ => 0
theorem reckon_1 (a b : Int) (w : World) (ha : Inw a) (hb : Inw b) : Calls Tryz.prog 138 #[.int .i64 1, .int .u64 a, .int .u64 b] w fun e w' => e = .returned (.tuple #[.int .u64 (reckZ 1 a b), .bool true]) ∧ Below w.heap.size w w' :=
  reckon_gen 1 a b w (by decide) (by decide) ha hb _ _ _ _ _ _ d_whole d_sum d_whole e_whole e_sum e_whole (by kernel_rfl) (by kernel_rfl) (by kernel_rfl)
theorem reckon_2 (a b : Int) (w : World) (ha : Inw a) (hb : Inw b) : Calls Tryz.prog 138 #[.int .i64 2, .int .u64 a, .int .u64 b] w fun e w' => e = .returned (.tuple #[.int .u64 (reckZ 2 a b), .bool true]) ∧ Below w.heap.size w w' :=
  reckon_gen 2 a b w (by decide) (by decide) ha hb _ _ _ _ _ _ d_whole d_difference d_whole e_whole e_difference e_whole (by kernel_rfl) (by kernel_rfl) (by kernel_rfl)
theorem reckon_3 (a b : Int) (w : World) (ha : Inw a) (hb : Inw b) : Calls Tryz.prog 138 #[.int .i64 3, .int .u64 a, .int .u64 b] w fun e w' => e = .returned (.tuple #[.int .u64 (reckZ 3 a b), .bool true]) ∧ Below w.heap.size w w' :=
  reckon_gen 3 a b w (by decide) (by decide) ha hb _ _ _ _ _ _ d_whole d_left d_whole e_whole e_left e_whole (by kernel_rfl) (by kernel_rfl) (by kernel_rfl)
theorem reckon_4 (a b : Int) (w : World) (ha : Inw a) (hb : Inw b) : Calls Tryz.prog 138 #[.int .i64 4, .int .u64 a, .int .u64 b] w fun e w' => e = .returned (.tuple #[.int .u64 (reckZ 4 a b), .bool true]) ∧ Below w.heap.size w w' :=
  reckon_gen 4 a b w (by decide) (by decide) ha hb _ _ _ _ _ _ d_whole d_below d_whole e_whole e_below e_whole (by kernel_rfl) (by kernel_rfl) (by kernel_rfl)
theorem reckon_5 (a b : Int) (w : World) (ha : Inw a) (hb : Inw b) : Calls Tryz.prog 138 #[.int .i64 5, .int .u64 a, .int .u64 b] w fun e w' => e = .returned (.tuple #[.int .u64 (reckZ 5 a b), .bool true]) ∧ Below w.heap.size w w' :=
  reckon_gen 5 a b w (by decide) (by decide) ha hb _ _ _ _ _ _ d_whole d_belowPlain d_whole e_whole e_belowPlain e_whole (by kernel_rfl) (by kernel_rfl) (by kernel_rfl)
theorem reckon_6 (a b : Int) (w : World) (ha : Inw a) (hb : Inw b) : Calls Tryz.prog 138 #[.int .i64 6, .int .u64 a, .int .u64 b] w fun e w' => e = .returned (.tuple #[.int .u64 (reckZ 6 a b), .bool true]) ∧ Below w.heap.size w w' :=
  reckon_gen 6 a b w (by decide) (by decide) ha hb _ _ _ _ _ _ d_whole d_xor d_whole e_whole e_xor e_whole (by kernel_rfl) (by kernel_rfl) (by kernel_rfl)
theorem reckon_7 (a b : Int) (w : World) (ha : Inw a) (hb : Inw b) : Calls Tryz.prog 138 #[.int .i64 7, .int .u64 a, .int .u64 b] w fun e w' => e = .returned (.tuple #[.int .u64 (reckZ 7 a b), .bool true]) ∧ Below w.heap.size w w' :=
  reckon_gen 7 a b w (by decide) (by decide) ha hb _ _ _ _ _ _ d_whole d_right d_whole e_whole e_right e_whole (by kernel_rfl) (by kernel_rfl) (by kernel_rfl)
theorem reckon_8 (a b : Int) (w : World) (ha : Inw a) (hb : Inw b) : Calls Tryz.prog 138 #[.int .i64 8, .int .u64 a, .int .u64 b] w fun e w' => e = .returned (.tuple #[.int .u64 (reckZ 8 a b), .bool true]) ∧ Below w.heap.size w w' :=
  reckon_gen 8 a b w (by decide) (by decide) ha hb _ _ _ _ _ _ d_whole d_rightSigned d_whole e_whole e_rightSigned e_whole (by kernel_rfl) (by kernel_rfl) (by kernel_rfl)
theorem reckon_9 (a b : Int) (w : World) (ha : Inw a) (hb : Inw b) : Calls Tryz.prog 138 #[.int .i64 9, .int .u64 a, .int .u64 b] w fun e w' => e = .returned (.tuple #[.int .u64 (reckZ 9 a b), .bool true]) ∧ Below w.heap.size w w' :=
  reckon_gen 9 a b w (by decide) (by decide) ha hb _ _ _ _ _ _ d_whole d_or d_whole e_whole e_or e_whole (by kernel_rfl) (by kernel_rfl) (by kernel_rfl)
theorem reckon_10 (a b : Int) (w : World) (ha : Inw a) (hb : Inw b) : Calls Tryz.prog 138 #[.int .i64 10, .int .u64 a, .int .u64 b] w fun e w' => e = .returned (.tuple #[.int .u64 (reckZ 10 a b), .bool true]) ∧ Below w.heap.size w w' :=
  reckon_gen 10 a b w (by decide) (by decide) ha hb _ _ _ _ _ _ d_whole d_and d_whole e_whole e_and e_whole (by kernel_rfl) (by kernel_rfl) (by kernel_rfl)
theorem reckon_11 (a b : Int) (w : World) (ha : Inw a) (hb : Inw b) : Calls Tryz.prog 138 #[.int .i64 11, .int .u64 a, .int .u64 b] w fun e w' => e = .returned (.tuple #[.int .u64 (reckZ 11 a b), .bool true]) ∧ Below w.heap.size w w' :=
  reckon_gen 11 a b w (by decide) (by decide) ha hb _ _ _ _ _ _ d_whole d_product d_whole e_whole e_product e_whole (by kernel_rfl) (by kernel_rfl) (by kernel_rfl)
theorem reckon_12 (a b : Int) (w : World) (ha : Inw a) (hb : Inw b) : Calls Tryz.prog 138 #[.int .i64 12, .int .u64 a, .int .u64 b] w fun e w' => e = .returned (.tuple #[.int .u64 (reckZ 12 a b), .bool true]) ∧ Below w.heap.size w w' :=
  reckon_gen 12 a b w (by decide) (by decide) ha hb _ _ _ _ _ _ d_whole d_high d_whole e_whole e_high e_whole (by kernel_rfl) (by kernel_rfl) (by kernel_rfl)
theorem reckon_13 (a b : Int) (w : World) (ha : Inw a) (hb : Inw b) : Calls Tryz.prog 138 #[.int .i64 13, .int .u64 a, .int .u64 b] w fun e w' => e = .returned (.tuple #[.int .u64 (reckZ 13 a b), .bool true]) ∧ Below w.heap.size w w' :=
  reckon_gen 13 a b w (by decide) (by decide) ha hb _ _ _ _ _ _ d_whole d_highMixed d_whole e_whole e_highMixed e_whole (by kernel_rfl) (by kernel_rfl) (by kernel_rfl)
theorem reckon_14 (a b : Int) (w : World) (ha : Inw a) (hb : Inw b) : Calls Tryz.prog 138 #[.int .i64 14, .int .u64 a, .int .u64 b] w fun e w' => e = .returned (.tuple #[.int .u64 (reckZ 14 a b), .bool true]) ∧ Below w.heap.size w w' :=
  reckon_gen 14 a b w (by decide) (by decide) ha hb _ _ _ _ _ _ d_whole d_highPlain d_whole e_whole e_highPlain e_whole (by kernel_rfl) (by kernel_rfl) (by kernel_rfl)
theorem reckon_15 (a b : Int) (w : World) (ha : Inw a) (hb : Inw b) : Calls Tryz.prog 138 #[.int .i64 15, .int .u64 a, .int .u64 b] w fun e w' => e = .returned (.tuple #[.int .u64 (reckZ 15 a b), .bool true]) ∧ Below w.heap.size w w' :=
  reckon_gen 15 a b w (by decide) (by decide) ha hb _ _ _ _ _ _ d_whole d_quotient d_whole e_whole e_quotient e_whole (by kernel_rfl) (by kernel_rfl) (by kernel_rfl)
theorem reckon_16 (a b : Int) (w : World) (ha : Inw a) (hb : Inw b) : Calls Tryz.prog 138 #[.int .i64 16, .int .u64 a, .int .u64 b] w fun e w' => e = .returned (.tuple #[.int .u64 (reckZ 16 a b), .bool true]) ∧ Below w.heap.size w w' :=
  reckon_gen 16 a b w (by decide) (by decide) ha hb _ _ _ _ _ _ d_whole d_quotientPlain d_whole e_whole e_quotientPlain e_whole (by kernel_rfl) (by kernel_rfl) (by kernel_rfl)
theorem reckon_17 (a b : Int) (w : World) (ha : Inw a) (hb : Inw b) : Calls Tryz.prog 138 #[.int .i64 17, .int .u64 a, .int .u64 b] w fun e w' => e = .returned (.tuple #[.int .u64 (reckZ 17 a b), .bool true]) ∧ Below w.heap.size w w' :=
  reckon_gen 17 a b w (by decide) (by decide) ha hb _ _ _ _ _ _ d_whole d_rest d_whole e_whole e_rest e_whole (by kernel_rfl) (by kernel_rfl) (by kernel_rfl)
theorem reckon_18 (a b : Int) (w : World) (ha : Inw a) (hb : Inw b) : Calls Tryz.prog 138 #[.int .i64 18, .int .u64 a, .int .u64 b] w fun e w' => e = .returned (.tuple #[.int .u64 (reckZ 18 a b), .bool true]) ∧ Below w.heap.size w w' :=
  reckon_gen 18 a b w (by decide) (by decide) ha hb _ _ _ _ _ _ d_whole d_restPlain d_whole e_whole e_restPlain e_whole (by kernel_rfl) (by kernel_rfl) (by kernel_rfl)
theorem reckon_19 (a b : Int) (w : World) (ha : Inw a) (hb : Inw b) : Calls Tryz.prog 138 #[.int .i64 19, .int .u64 a, .int .u64 b] w fun e w' => e = .returned (.tuple #[.int .u64 (reckZ 19 a b), .bool true]) ∧ Below w.heap.size w w' :=
  reckon_gen 19 a b w (by decide) (by decide) ha hb _ _ _ _ _ _ d_signed d_sum d_signed e_signed e_sum e_signed (by kernel_rfl) (by kernel_rfl) (by kernel_rfl)
theorem reckon_20 (a b : Int) (w : World) (ha : Inw a) (hb : Inw b) : Calls Tryz.prog 138 #[.int .i64 20, .int .u64 a, .int .u64 b] w fun e w' => e = .returned (.tuple #[.int .u64 (reckZ 20 a b), .bool true]) ∧ Below w.heap.size w w' :=
  reckon_gen 20 a b w (by decide) (by decide) ha hb _ _ _ _ _ _ d_signed d_difference d_signed e_signed e_difference e_signed (by kernel_rfl) (by kernel_rfl) (by kernel_rfl)
theorem reckon_21 (a b : Int) (w : World) (ha : Inw a) (hb : Inw b) : Calls Tryz.prog 138 #[.int .i64 21, .int .u64 a, .int .u64 b] w fun e w' => e = .returned (.tuple #[.int .u64 (reckZ 21 a b), .bool true]) ∧ Below w.heap.size w w' :=
  reckon_gen 21 a b w (by decide) (by decide) ha hb _ _ _ _ _ _ d_signed d_leftNarrow d_signed e_signed e_leftNarrow e_signed (by kernel_rfl) (by kernel_rfl) (by kernel_rfl)
theorem reckon_22 (a b : Int) (w : World) (ha : Inw a) (hb : Inw b) : Calls Tryz.prog 138 #[.int .i64 22, .int .u64 a, .int .u64 b] w fun e w' => e = .returned (.tuple #[.int .u64 (reckZ 22 a b), .bool true]) ∧ Below w.heap.size w w' :=
  reckon_gen 22 a b w (by decide) (by decide) ha hb _ _ _ _ _ _ d_plain d_rightNarrow d_signed e_plain e_rightNarrow e_signed (by kernel_rfl) (by kernel_rfl) (by kernel_rfl)
theorem reckon_23 (a b : Int) (w : World) (ha : Inw a) (hb : Inw b) : Calls Tryz.prog 138 #[.int .i64 23, .int .u64 a, .int .u64 b] w fun e w' => e = .returned (.tuple #[.int .u64 (reckZ 23 a b), .bool true]) ∧ Below w.heap.size w w' :=
  reckon_gen 23 a b w (by decide) (by decide) ha hb _ _ _ _ _ _ d_signed d_rightSignedNarrow d_signed e_signed e_rightSignedNarrow e_signed (by kernel_rfl) (by kernel_rfl) (by kernel_rfl)
theorem reckon_24 (a b : Int) (w : World) (ha : Inw a) (hb : Inw b) : Calls Tryz.prog 138 #[.int .i64 24, .int .u64 a, .int .u64 b] w fun e w' => e = .returned (.tuple #[.int .u64 (reckZ 24 a b), .bool true]) ∧ Below w.heap.size w w' :=
  reckon_gen 24 a b w (by decide) (by decide) ha hb _ _ _ _ _ _ d_signed d_product d_signed e_signed e_product e_signed (by kernel_rfl) (by kernel_rfl) (by kernel_rfl)
theorem reckon_25 (a b : Int) (w : World) (ha : Inw a) (hb : Inw b) : Calls Tryz.prog 138 #[.int .i64 25, .int .u64 a, .int .u64 b] w fun e w' => e = .returned (.tuple #[.int .u64 (reckZ 25 a b), .bool true]) ∧ Below w.heap.size w w' :=
  reckon_gen 25 a b w (by decide) (by decide) ha hb _ _ _ _ _ _ d_signed d_quotient d_signed e_signed e_quotient e_signed (by kernel_rfl) (by kernel_rfl) (by kernel_rfl)
theorem reckon_26 (a b : Int) (w : World) (ha : Inw a) (hb : Inw b) : Calls Tryz.prog 138 #[.int .i64 26, .int .u64 a, .int .u64 b] w fun e w' => e = .returned (.tuple #[.int .u64 (reckZ 26 a b), .bool true]) ∧ Below w.heap.size w w' :=
  reckon_gen 26 a b w (by decide) (by decide) ha hb _ _ _ _ _ _ d_plain d_quotientPlain d_signed e_plain e_quotientPlain e_signed (by kernel_rfl) (by kernel_rfl) (by kernel_rfl)
theorem reckon_27 (a b : Int) (w : World) (ha : Inw a) (hb : Inw b) : Calls Tryz.prog 138 #[.int .i64 27, .int .u64 a, .int .u64 b] w fun e w' => e = .returned (.tuple #[.int .u64 (reckZ 27 a b), .bool true]) ∧ Below w.heap.size w w' :=
  reckon_gen 27 a b w (by decide) (by decide) ha hb _ _ _ _ _ _ d_signed d_rest d_signed e_signed e_rest e_signed (by kernel_rfl) (by kernel_rfl) (by kernel_rfl)
theorem reckon_28 (a b : Int) (w : World) (ha : Inw a) (hb : Inw b) : Calls Tryz.prog 138 #[.int .i64 28, .int .u64 a, .int .u64 b] w fun e w' => e = .returned (.tuple #[.int .u64 (reckZ 28 a b), .bool true]) ∧ Below w.heap.size w w' :=
  reckon_gen 28 a b w (by decide) (by decide) ha hb _ _ _ _ _ _ d_plain d_restPlain d_signed e_plain e_restPlain e_signed (by kernel_rfl) (by kernel_rfl) (by kernel_rfl)
theorem reckon_29 (a b : Int) (w : World) (ha : Inw a) (hb : Inw b) : Calls Tryz.prog 138 #[.int .i64 29, .int .u64 a, .int .u64 b] w fun e w' => e = .returned (.tuple #[.int .u64 (reckZ 29 a b), .bool true]) ∧ Below w.heap.size w w' :=
  reckon_gen 29 a b w (by decide) (by decide) ha hb _ _ _ _ _ _ d_whole d_sum d_whole e_whole e_sum e_whole (by kernel_rfl) (by kernel_rfl) (by kernel_rfl)
theorem reckon_30 (a b : Int) (w : World) (ha : Inw a) (hb : Inw b) : Calls Tryz.prog 138 #[.int .i64 30, .int .u64 a, .int .u64 b] w fun e w' => e = .returned (.tuple #[.int .u64 (reckZ 30 a b), .bool true]) ∧ Below w.heap.size w w' :=
  reckon_gen 30 a b w (by decide) (by decide) ha hb _ _ _ _ _ _ d_whole d_below d_whole e_whole e_below e_whole (by kernel_rfl) (by kernel_rfl) (by kernel_rfl)
theorem reckon_31 (a b : Int) (w : World) (ha : Inw a) (hb : Inw b) : Calls Tryz.prog 138 #[.int .i64 31, .int .u64 a, .int .u64 b] w fun e w' => e = .returned (.tuple #[.int .u64 (reckZ 31 a b), .bool true]) ∧ Below w.heap.size w w' :=
  reckon_gen 31 a b w (by decide) (by decide) ha hb _ _ _ _ _ _ d_whole d_belowPlain d_whole e_whole e_belowPlain e_whole (by kernel_rfl) (by kernel_rfl) (by kernel_rfl)
theorem reckon_32 (a b : Int) (w : World) (ha : Inw a) (hb : Inw b) : Calls Tryz.prog 138 #[.int .i64 32, .int .u64 a, .int .u64 b] w fun e w' => e = .returned (.tuple #[.int .u64 (reckZ 32 a b), .bool true]) ∧ Below w.heap.size w w' :=
  reckon_gen 32 a b w (by decide) (by decide) ha hb _ _ _ _ _ _ d_whole d_xor d_whole e_whole e_xor e_whole (by kernel_rfl) (by kernel_rfl) (by kernel_rfl)
theorem reckon_33 (a b : Int) (w : World) (ha : Inw a) (hb : Inw b) : Calls Tryz.prog 138 #[.int .i64 33, .int .u64 a, .int .u64 b] w fun e w' => e = .returned (.tuple #[.int .u64 (reckZ 33 a b), .bool true]) ∧ Below w.heap.size w w' :=
  reckon_gen 33 a b w (by decide) (by decide) ha hb _ _ _ _ _ _ d_whole d_or d_whole e_whole e_or e_whole (by kernel_rfl) (by kernel_rfl) (by kernel_rfl)
theorem reckon_34 (a b : Int) (w : World) (ha : Inw a) (hb : Inw b) : Calls Tryz.prog 138 #[.int .i64 34, .int .u64 a, .int .u64 b] w fun e w' => e = .returned (.tuple #[.int .u64 (reckZ 34 a b), .bool true]) ∧ Below w.heap.size w w' :=
  reckon_gen 34 a b w (by decide) (by decide) ha hb _ _ _ _ _ _ d_whole d_and d_whole e_whole e_and e_whole (by kernel_rfl) (by kernel_rfl) (by kernel_rfl)
theorem reckon_35 (a b : Int) (w : World) (ha : Inw a) (hb : Inw b) : Calls Tryz.prog 138 #[.int .i64 35, .int .u64 a, .int .u64 b] w fun e w' => e = .returned (.tuple #[.int .u64 (reckZ 35 a b), .bool true]) ∧ Below w.heap.size w w' :=
  reckon_gen 35 a b w (by decide) (by decide) ha hb _ _ _ _ _ _ d_whole d_left d_whole e_whole e_left e_whole (by kernel_rfl) (by kernel_rfl) (by kernel_rfl)
theorem reckon_36 (a b : Int) (w : World) (ha : Inw a) (hb : Inw b) : Calls Tryz.prog 138 #[.int .i64 36, .int .u64 a, .int .u64 b] w fun e w' => e = .returned (.tuple #[.int .u64 (reckZ 36 a b), .bool true]) ∧ Below w.heap.size w w' :=
  reckon_gen 36 a b w (by decide) (by decide) ha hb _ _ _ _ _ _ d_whole d_right d_whole e_whole e_right e_whole (by kernel_rfl) (by kernel_rfl) (by kernel_rfl)
theorem reckon_37 (a b : Int) (w : World) (ha : Inw a) (hb : Inw b) : Calls Tryz.prog 138 #[.int .i64 37, .int .u64 a, .int .u64 b] w fun e w' => e = .returned (.tuple #[.int .u64 (reckZ 37 a b), .bool true]) ∧ Below w.heap.size w w' :=
  reckon_gen 37 a b w (by decide) (by decide) ha hb _ _ _ _ _ _ d_whole d_rightSigned d_whole e_whole e_rightSigned e_whole (by kernel_rfl) (by kernel_rfl) (by kernel_rfl)
theorem reckon_38 (a b : Int) (w : World) (ha : Inw a) (hb : Inw b) : Calls Tryz.prog 138 #[.int .i64 38, .int .u64 a, .int .u64 b] w fun e w' => e = .returned (.tuple #[.int .u64 (reckZ 38 a b), .bool true]) ∧ Below w.heap.size w w' :=
  reckon_gen 38 a b w (by decide) (by decide) ha hb _ _ _ _ _ _ d_signed d_sum d_signed e_signed e_sum e_signed (by kernel_rfl) (by kernel_rfl) (by kernel_rfl)
theorem reckon_39 (a b : Int) (w : World) (ha : Inw a) (hb : Inw b) : Calls Tryz.prog 138 #[.int .i64 39, .int .u64 a, .int .u64 b] w fun e w' => e = .returned (.tuple #[.int .u64 (reckZ 39 a b), .bool true]) ∧ Below w.heap.size w w' :=
  reckon_gen 39 a b w (by decide) (by decide) ha hb _ _ _ _ _ _ d_signed d_leftNarrow d_signed e_signed e_leftNarrow e_signed (by kernel_rfl) (by kernel_rfl) (by kernel_rfl)
theorem reckon_40 (a b : Int) (w : World) (ha : Inw a) (hb : Inw b) : Calls Tryz.prog 138 #[.int .i64 40, .int .u64 a, .int .u64 b] w fun e w' => e = .returned (.tuple #[.int .u64 (reckZ 40 a b), .bool true]) ∧ Below w.heap.size w w' :=
  reckon_gen 40 a b w (by decide) (by decide) ha hb _ _ _ _ _ _ d_plain d_rightNarrow d_signed e_plain e_rightNarrow e_signed (by kernel_rfl) (by kernel_rfl) (by kernel_rfl)
theorem reckon_41 (a b : Int) (w : World) (ha : Inw a) (hb : Inw b) : Calls Tryz.prog 138 #[.int .i64 41, .int .u64 a, .int .u64 b] w fun e w' => e = .returned (.tuple #[.int .u64 (reckZ 41 a b), .bool true]) ∧ Below w.heap.size w w' :=
  reckon_gen 41 a b w (by decide) (by decide) ha hb _ _ _ _ _ _ d_signed d_rightSignedNarrow d_signed e_signed e_rightSignedNarrow e_signed (by kernel_rfl) (by kernel_rfl) (by kernel_rfl)
end Go.Proofs.YtegoddghfjfibaaGreatDoor.Al

