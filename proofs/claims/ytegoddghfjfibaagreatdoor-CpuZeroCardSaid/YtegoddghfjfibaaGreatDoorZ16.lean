/- AluB AluC -/
import Derived.Test.YtegoddghfjfibaaGreatDoorZ01
import Derived.Lib.Hide
import Derived.Test.YtegoddghfjfibaaGreatDoorZ15
import Derived.Laws.EntriesVeiled
import Derived.Laws.NewBlocks
import Derived.Deep.RegionHeld3
namespace Go.Proofs.YtegoddghfjfibaaGreatDoor.Al
set_option linter.unusedVariables false
set_option linter.unusedSimpArgs false
open Go.ChangeShapes Go.WideShapes Go.ChangeAt Go.RowKit

def numZ (o : Bool) : Int := if o then 1 else 0
theorem and_mask64 (b : Int) (h0 : 0 ≤ b) (h1 : b < 18446744073709551616) : bits .and .u64 b 63 = b % 64 := by
  obtain ⟨x, rfl⟩ := Int.eq_ofNat_of_zero_le h0
  have := u64_and_nat x 63 (by omega) (by decide)
  rw [show ((63 : Nat) : Int) = 63 from rfl] at this
  rw [this]
  exact congrArg _ (Nat.and_two_pow_sub_one_eq_mod x 6)
theorem and_mask32 (b : Int) (h0 : 0 ≤ b) (h1 : b < 18446744073709551616) : bits .and .u64 b 31 = b % 32 := by
  obtain ⟨x, rfl⟩ := Int.eq_ofNat_of_zero_le h0
  have := u64_and_nat x 31 (by omega) (by decide)
  rw [show ((31 : Nat) : Int) = 31 from rfl] at this
  rw [this]
  exact congrArg _ (Nat.and_two_pow_sub_one_eq_mod x 5)
theorem c_whole (a : Int) (w : World) (h0 : 0 ≤ a) (h1 : a < 18446744073709551616) :
    Calls Tryz.prog 197 #[.int .u64 a] w fun e w' => e = .returned (.int .u64 (a)) ∧ Quiet w w' := by
  go_enter Tryz.func197, Tryz.ntmps197
  go_wp2_with fail
  go_ret
  exact ⟨rfl, Quiet.refl _⟩

theorem c_signed (a : Int) (w : World) (h0 : 0 ≤ a) (h1 : a < 18446744073709551616) :
    Calls Tryz.prog 216 #[.int .u64 a] w fun e w' => e = .returned (.int .u64 (signZ a 32)) ∧ Quiet w w' := by
  go_enter Tryz.func216, Tryz.ntmps216
  go_wp2_with (go_at_call 183; refine (sign_any a 32 _ h0).mono ?_; rintro e w' ⟨rfl, rfl⟩)
  go_ret
  exact ⟨rfl, Quiet.refl _⟩

theorem c_plain (a : Int) (w : World) (h0 : 0 ≤ a) (h1 : a < 18446744073709551616) :
    Calls Tryz.prog 218 #[.int .u64 a] w fun e w' => e = .returned (.int .u64 (bitsZ a 0 32)) ∧ Quiet w w' := by
  go_enter Tryz.func218, Tryz.ntmps218
  go_wp2_with (go_at_call 142; refine (bits_any a 0 32 _ h0 h1).mono ?_; rintro e w' ⟨rfl, n, rfl⟩)
  go_ret
  exact ⟨rfl, n, rfl⟩

theorem c_sum (a b : Int) (w : World) (h0 : 0 ≤ a) (h1 : a < 18446744073709551616) (h2 : 0 ≤ b) (h3 : b < 18446744073709551616) :
    Calls Tryz.prog 198 #[.int .u64 a, .int .u64 b] w fun e w' => e = .returned (.int .u64 (IntKind.u64.wrap (a + b))) ∧ Quiet w w' := by
  go_enter Tryz.func198, Tryz.ntmps198
  go_wp2_with fail
  go_ret
  exact ⟨rfl, Quiet.refl _⟩

theorem c_difference (a b : Int) (w : World) (h0 : 0 ≤ a) (h1 : a < 18446744073709551616) (h2 : 0 ≤ b) (h3 : b < 18446744073709551616) :
    Calls Tryz.prog 199 #[.int .u64 a, .int .u64 b] w fun e w' => e = .returned (.int .u64 (IntKind.u64.wrap (a - b))) ∧ Quiet w w' := by
  go_enter Tryz.func199, Tryz.ntmps199
  go_wp2_with fail
  go_ret
  exact ⟨rfl, Quiet.refl _⟩

theorem c_and (a b : Int) (w : World) (h0 : 0 ≤ a) (h1 : a < 18446744073709551616) (h2 : 0 ≤ b) (h3 : b < 18446744073709551616) :
    Calls Tryz.prog 207 #[.int .u64 a, .int .u64 b] w fun e w' => e = .returned (.int .u64 (bits .and .u64 a b)) ∧ Quiet w w' := by
  go_enter Tryz.func207, Tryz.ntmps207
  go_wp2_with fail
  go_ret
  exact ⟨rfl, Quiet.refl _⟩

theorem c_or (a b : Int) (w : World) (h0 : 0 ≤ a) (h1 : a < 18446744073709551616) (h2 : 0 ≤ b) (h3 : b < 18446744073709551616) :
    Calls Tryz.prog 206 #[.int .u64 a, .int .u64 b] w fun e w' => e = .returned (.int .u64 (bits .or .u64 a b)) ∧ Quiet w w' := by
  go_enter Tryz.func206, Tryz.ntmps206
  go_wp2_with fail
  go_ret
  exact ⟨rfl, Quiet.refl _⟩

theorem c_xor (a b : Int) (w : World) (h0 : 0 ≤ a) (h1 : a < 18446744073709551616) (h2 : 0 ≤ b) (h3 : b < 18446744073709551616) :
    Calls Tryz.prog 203 #[.int .u64 a, .int .u64 b] w fun e w' => e = .returned (.int .u64 (bits .xor .u64 a b)) ∧ Quiet w w' := by
  go_enter Tryz.func203, Tryz.ntmps203
  go_wp2_with fail
  go_ret
  exact ⟨rfl, Quiet.refl _⟩

theorem c_product (a b : Int) (w : World) (h0 : 0 ≤ a) (h1 : a < 18446744073709551616) (h2 : 0 ≤ b) (h3 : b < 18446744073709551616) :
    Calls Tryz.prog 208 #[.int .u64 a, .int .u64 b] w fun e w' => e = .returned (.int .u64 (IntKind.u64.wrap (a * b))) ∧ Quiet w w' := by
  go_enter Tryz.func208, Tryz.ntmps208
  go_wp2_with fail
  go_ret
  exact ⟨rfl, Quiet.refl _⟩

theorem number_bool (o : Bool) (w : World) :
    Calls Tryz.prog 238 #[.bool o] w fun e w' => e = .returned (.int .u64 (numZ o)) ∧ w = w' := by
  cases o
  · go_enter Tryz.func238, Tryz.ntmps238
    go_wp2_with fail
    go_ret
    exact ⟨rfl, rfl⟩
  · go_enter Tryz.func238, Tryz.ntmps238
    go_wp2_with fail
    go_ret
    exact ⟨rfl, rfl⟩

theorem c_below (a b : Int) (w : World) (h0 : 0 ≤ a) (h1 : a < 18446744073709551616) (h2 : 0 ≤ b) (h3 : b < 18446744073709551616) :
    Calls Tryz.prog 201 #[.int .u64 a, .int .u64 b] w fun e w' => e = .returned (.int .u64 (numZ (decide (wrap64 a < wrap64 b)))) ∧ Quiet w w' := by
  go_enter Tryz.func201, Tryz.ntmps201
  go_wp2_with (go_at_call 238; refine (number_bool _ _).mono ?_; rintro e w' ⟨rfl, rfl⟩)
  go_ret
  exact ⟨rfl, Quiet.refl _⟩

theorem c_belowPlain (a b : Int) (w : World) (h0 : 0 ≤ a) (h1 : a < 18446744073709551616) (h2 : 0 ≤ b) (h3 : b < 18446744073709551616) :
    Calls Tryz.prog 202 #[.int .u64 a, .int .u64 b] w fun e w' => e = .returned (.int .u64 (numZ (decide (a < b)))) ∧ Quiet w w' := by
  go_enter Tryz.func202, Tryz.ntmps202
  go_wp2_with (go_at_call 238; refine (number_bool _ _).mono ?_; rintro e w' ⟨rfl, rfl⟩)
  go_ret
  exact ⟨rfl, Quiet.refl _⟩

theorem c_left (a b : Int) (w : World) (h0 : 0 ≤ a) (h1 : a < 18446744073709551616) (h2 : 0 ≤ b) (h3 : b < 18446744073709551616) :
    Calls Tryz.prog 200 #[.int .u64 a, .int .u64 b] w fun e w' => e = .returned (.int .u64 (IntKind.u64.wrap (a * 2 ^ (b % 64).toNat))) ∧ Quiet w w' := by
  have hm := and_mask64 b h2 h3
  have k0 : 0 ≤ bits .and .u64 b 63 := by rw [hm]; omega
  have k1 : bits .and .u64 b 63 ≤ 64 := by rw [hm]; omega
  have HM := Lib.hid hm
  clear hm
  go_enter Tryz.func200, Tryz.ntmps200
  go_wp2_with fail
  go_ret
  exact ⟨by rw [← HM.out]; rfl, Quiet.refl _⟩

theorem c_right (a b : Int) (w : World) (h0 : 0 ≤ a) (h1 : a < 18446744073709551616) (h2 : 0 ≤ b) (h3 : b < 18446744073709551616) :
    Calls Tryz.prog 204 #[.int .u64 a, .int .u64 b] w fun e w' => e = .returned (.int .u64 (a / 2 ^ (b % 64).toNat)) ∧ Quiet w w' := by
  have hm := and_mask64 b h2 h3
  have k0 : 0 ≤ bits .and .u64 b 63 := by rw [hm]; omega
  have k1 : bits .and .u64 b 63 ≤ 64 := by rw [hm]; omega
  have HM := Lib.hid hm
  clear hm
  go_enter Tryz.func204, Tryz.ntmps204
  go_wp2_with fail
  go_ret
  exact ⟨by rw [← HM.out]; rfl, Quiet.refl _⟩

theorem c_rightSigned (a b : Int) (w : World) (h0 : 0 ≤ a) (h1 : a < 18446744073709551616) (h2 : 0 ≤ b) (h3 : b < 18446744073709551616) :
    Calls Tryz.prog 205 #[.int .u64 a, .int .u64 b] w fun e w' => e = .returned (.int .u64 (IntKind.u64.wrap (wrap64 a / 2 ^ (b % 64).toNat))) ∧ Quiet w w' := by
  have hm := and_mask64 b h2 h3
  have k0 : 0 ≤ bits .and .u64 b 63 := by rw [hm]; omega
  have k1 : bits .and .u64 b 63 ≤ 64 := by rw [hm]; omega
  have HM := Lib.hid hm
  clear hm
  go_enter Tryz.func205, Tryz.ntmps205
  go_wp2_with fail
  go_ret
  exact ⟨by rw [← HM.out]; rfl, Quiet.refl _⟩

theorem c_leftNarrow (a b : Int) (w : World) (h0 : 0 ≤ a) (h1 : a < 18446744073709551616) (h2 : 0 ≤ b) (h3 : b < 18446744073709551616) :
    Calls Tryz.prog 217 #[.int .u64 a, .int .u64 b] w fun e w' => e = .returned (.int .u64 (IntKind.u64.wrap (a * 2 ^ (b % 32).toNat))) ∧ Quiet w w' := by
  have hm := and_mask32 b h2 h3
  have k0 : 0 ≤ bits .and .u64 b 31 := by rw [hm]; omega
  have k1 : bits .and .u64 b 31 ≤ 64 := by rw [hm]; omega
  have HM := Lib.hid hm
  clear hm
  go_enter Tryz.func217, Tryz.ntmps217
  go_wp2_with fail
  go_ret
  exact ⟨by rw [← HM.out]; rfl, Quiet.refl _⟩

theorem c_rightNarrow (a b : Int) (w : World) (h0 : 0 ≤ a) (h1 : a < 18446744073709551616) (h2 : 0 ≤ b) (h3 : b < 18446744073709551616) :
    Calls Tryz.prog 219 #[.int .u64 a, .int .u64 b] w fun e w' => e = .returned (.int .u64 (a / 2 ^ (b % 32).toNat)) ∧ Quiet w w' := by
  have hm := and_mask32 b h2 h3
  have k0 : 0 ≤ bits .and .u64 b 31 := by rw [hm]; omega
  have k1 : bits .and .u64 b 31 ≤ 64 := by rw [hm]; omega
  have HM := Lib.hid hm
  clear hm
  go_enter Tryz.func219, Tryz.ntmps219
  go_wp2_with fail
  go_ret
  exact ⟨by rw [← HM.out]; rfl, Quiet.refl _⟩

theorem c_rightSignedNarrow (a b : Int) (w : World) (h0 : 0 ≤ a) (h1 : a < 18446744073709551616) (h2 : 0 ≤ b) (h3 : b < 18446744073709551616) :
    Calls Tryz.prog 220 #[.int .u64 a, .int .u64 b] w fun e w' => e = .returned (.int .u64 (IntKind.u64.wrap (wrap64 a / 2 ^ (b % 32).toNat))) ∧ Quiet w w' := by
  have hm := and_mask32 b h2 h3
  have k0 : 0 ≤ bits .and .u64 b 31 := by rw [hm]; omega
  have k1 : bits .and .u64 b 31 ≤ 64 := by rw [hm]; omega
  have HM := Lib.hid hm
  clear hm
  go_enter Tryz.func220, Tryz.ntmps220
  go_wp2_with fail
  go_ret
  exact ⟨by rw [← HM.out]; rfl, Quiet.refl _⟩

theorem c_high (a b : Int) (w : World) (h0 : 0 ≤ a) (h1 : a < 18446744073709551616) (h2 : 0 ≤ b) (h3 : b < 18446744073709551616) :
    Calls Tryz.prog 209 #[.int .u64 a, .int .u64 b] w fun e w' => e = .returned (.int .u64 (highZ a b true true)) ∧ Quiet w w' := by
  go_enter Tryz.func209, Tryz.ntmps209
  go_wp2_with (go_at_call 239; refine (high_any a b true true _ h0 h1 h2 h3).mono ?_; rintro e w' ⟨rfl, rfl⟩)
  go_ret
  exact ⟨rfl, Quiet.refl _⟩

theorem c_highMixed (a b : Int) (w : World) (h0 : 0 ≤ a) (h1 : a < 18446744073709551616) (h2 : 0 ≤ b) (h3 : b < 18446744073709551616) :
    Calls Tryz.prog 210 #[.int .u64 a, .int .u64 b] w fun e w' => e = .returned (.int .u64 (highZ a b true false)) ∧ Quiet w w' := by
  go_enter Tryz.func210, Tryz.ntmps210
  go_wp2_with (go_at_call 239; refine (high_any a b true false _ h0 h1 h2 h3).mono ?_; rintro e w' ⟨rfl, rfl⟩)
  go_ret
  exact ⟨rfl, Quiet.refl _⟩

theorem c_highPlain (a b : Int) (w : World) (h0 : 0 ≤ a) (h1 : a < 18446744073709551616) (h2 : 0 ≤ b) (h3 : b < 18446744073709551616) :
    Calls Tryz.prog 211 #[.int .u64 a, .int .u64 b] w fun e w' => e = .returned (.int .u64 (highZ a b false false)) ∧ Quiet w w' := by
  go_enter Tryz.func211, Tryz.ntmps211
  go_wp2_with (go_at_call 239; refine (high_any a b false false _ h0 h1 h2 h3).mono ?_; rintro e w' ⟨rfl, rfl⟩)
  go_ret
  exact ⟨rfl, Quiet.refl _⟩

theorem c_quotient (a b : Int) (w : World) (h0 : 0 ≤ a) (h1 : a < 18446744073709551616) (h2 : 0 ≤ b) (h3 : b < 18446744073709551616) :
    Calls Tryz.prog 212 #[.int .u64 a, .int .u64 b] w fun e w' => e = .returned (.int .u64 (quotZ a b true)) ∧ Quiet w w' := by
  go_enter Tryz.func212, Tryz.ntmps212
  go_wp2_with (go_at_call 240; refine (quot_any a b true _ h0 h1 h2 h3).mono ?_; rintro e w' ⟨rfl, n, rfl⟩)
  go_ret
  exact ⟨rfl, n, rfl⟩

theorem c_quotientPlain (a b : Int) (w : World) (h0 : 0 ≤ a) (h1 : a < 18446744073709551616) (h2 : 0 ≤ b) (h3 : b < 18446744073709551616) :
    Calls Tryz.prog 213 #[.int .u64 a, .int .u64 b] w fun e w' => e = .returned (.int .u64 (quotZ a b false)) ∧ Quiet w w' := by
  go_enter Tryz.func213, Tryz.ntmps213
  go_wp2_with (go_at_call 240; refine (quot_any a b false _ h0 h1 h2 h3).mono ?_; rintro e w' ⟨rfl, n, rfl⟩)
  go_ret
  exact ⟨rfl, n, rfl⟩

theorem c_rest (a b : Int) (w : World) (h0 : 0 ≤ a) (h1 : a < 18446744073709551616) (h2 : 0 ≤ b) (h3 : b < 18446744073709551616) :
    Calls Tryz.prog 214 #[.int .u64 a, .int .u64 b] w fun e w' => e = .returned (.int .u64 (restZ a b true)) ∧ Quiet w w' := by
  go_enter Tryz.func214, Tryz.ntmps214
  go_wp2_with (go_at_call 241; refine (rest_any a b true _ h0 h1 h2 h3).mono ?_; rintro e w' ⟨rfl, n, rfl⟩)
  go_ret
  exact ⟨rfl, n, rfl⟩

theorem c_restPlain (a b : Int) (w : World) (h0 : 0 ≤ a) (h1 : a < 18446744073709551616) (h2 : 0 ≤ b) (h3 : b < 18446744073709551616) :
    Calls Tryz.prog 215 #[.int .u64 a, .int .u64 b] w fun e w' => e = .returned (.int .u64 (restZ a b false)) ∧ Quiet w w' := by
  go_enter Tryz.func215, Tryz.ntmps215
  go_wp2_with (go_at_call 241; refine (rest_any a b false _ h0 h1 h2 h3).mono ?_; rintro e w' ⟨rfl, n, rfl⟩)
  go_ret
  exact ⟨rfl, n, rfl⟩
end Go.Proofs.YtegoddghfjfibaaGreatDoor.Al

namespace Go.Proofs.YtegoddghfjfibaaGreatDoor.Al
set_option linter.unusedVariables false
set_option linter.unusedSimpArgs false
open Go.ChangeShapes Go.WideShapes Go.ChangeAt Go.RowKit

theorem boxed {w W' : World} {cs : Array Value} {t : TypeId} (h : Below (w.alloc (.cells cs t)).heap.size (w.alloc (.cells cs t)) W') (j : Nat) : W'.cell? ⟨w.heap.size, j, none⟩ = cs[j]? := by
  rw [h.cell (p := ⟨w.heap.size, j, none⟩) (by rw [size_alloc]; exact Nat.lt_succ_self _)]
  exact cell_of_row _ _ j cs t (0, 0) (heap_alloc_new w _)
theorem boxed3 {w w0 W' : World} {F0 F1 F2 : Value} {t : TypeId} (hw : w.heap.size = w0.heap.size + 1) (h : Below (w.alloc (.cells #[F0, F1, F2] t)).heap.size (w.alloc (.cells #[F0, F1, F2] t)) W') :
    W'.cell? ⟨w0.heap.size + 1, 0, none⟩ = some F0 ∧ W'.cell? ⟨w0.heap.size + 1, 1, none⟩ = some F1 ∧ W'.cell? ⟨w0.heap.size + 1, 2, none⟩ = some F2 := by
  rw [← hw]; exact ⟨boxed h 0, boxed h 1, boxed h 2⟩
theorem quiet_below {B : Nat} {w w' : World} (h : Quiet w w') : Below B w w' := by
  obtain ⟨n, rfl⟩ := h; exact ⟨rfl, rfl, rfl, Nat.le_refl _, fun _ _ => rfl⟩

abbrev Inw (x : Int) : Prop := 0 ≤ x ∧ x < 18446744073709551616
/-- a function of one word, of two words: its contract -/
def Does1 (f : Nat) (F : Int → Int) : Prop := (∀ x, Inw x → Inw (F x)) ∧ ∀ (x : Int) (w : World), Inw x → Calls Tryz.prog f #[.int .u64 x] w fun e w' => e = .returned (.int .u64 (F x)) ∧ Quiet w w'
def Does2 (f : Nat) (F : Int → Int → Int) : Prop := (∀ x y, Inw x → Inw y → Inw (F x y)) ∧ ∀ (x y : Int) (w : World), Inw x → Inw y → Calls Tryz.prog f #[.int .u64 x, .int .u64 y] w fun e w' => e = .returned (.int .u64 (F x y)) ∧ Quiet w w'

theorem reckon_gen (op a b : Int) (w : World) (h1 : 1 ≤ op) (h2 : op ≤ 41) (ha : Inw a) (hb : Inw b) (tk rk gv : Nat) (T G : Int → Int) (R2 : Int → Int → Int) (hT : Does1 tk T) (hR : Does2 rk R2) (hG : Does1 gv G)
    (eT : ∀ args W, (callFunc tk args).run Tryz.prog W = .ok (.enter tk args) W) (eR : ∀ args W, (callFunc rk args).run Tryz.prog W = .ok (.enter rk args) W) (eG : ∀ args W, (callFunc gv args).run Tryz.prog W = .ok (.enter gv args) W)
    (hc0 : rulesC[(op.toNat - 1) * 3]? = some (.func (.func tk) #[] #[])) (hc1 : rulesC[(op.toNat - 1) * 3 + 1]? = some (.func (.func rk) #[] #[])) (hc2 : rulesC[(op.toNat - 1) * 3 + 2]? = some (.func (.func gv) #[] #[])) :
    Calls Tryz.prog 138 #[.int .i64 op, .int .u64 a, .int .u64 b] w fun e w' => e = .returned (.tuple #[.int .u64 (G (R2 (T a) (T b))), .bool true]) ∧ Below w.heap.size w w' := by
  obtain ⟨t1, t2⟩ := hT; obtain ⟨r1, r2⟩ := hR; obtain ⟨g1, g2⟩ := hG
  have HA := Lib.hid ha; have HB := Lib.hid hb; have HT := Lib.hid t2; have HR := Lib.hid r2; have HG := Lib.hid g2
  have Ta := Lib.hid (t1 a ha); have Tb := Lib.hid (t1 b hb); have Rab := Lib.hid (r1 _ _ (t1 a ha) (t1 b hb))
  clear ha hb t1 t2 r1 r2 g1 g2
  go_enter Tryz.func138, Tryz.ntmps138
  go_wp2_with fail
  refine (rules_any _).mono ?_; rintro e w1 ⟨rfl, hb⟩
  have hz : rulesC.size = 123 := by kernel_rfl
  have hst := run_storeCells_new (P := Tryz.prog) w1 197 Tryz.zeroCells197 rulesC (by kernel_rfl) (by kernel_rfl) (by kernel_rfl)
  generalize rulesC = R at *
  have HB0 := Lib.hid hb
  clear hb
  go_wp2_with fail
  have hw := size_alloc w1 (.cells R 197)
  have HW := Lib.hid hw
  have HZ := Lib.hid hz
  have HC := Lib.hid (And.intro hc0 (And.intro hc1 hc2))
  clear hw hz hst hc0 hc1 hc2
  go_region_held3 (fun W => W.cell? ⟨w1.heap.size + 1, 0, none⟩ = some (.func (.func tk) #[] #[]) ∧ W.cell? ⟨w1.heap.size + 1, 1, none⟩ = some (.func (.func rk) #[] #[]) ∧ W.cell? ⟨w1.heap.size + 1, 2, none⟩ = some (.func (.func gv) #[] #[]))
    (first | exact boxed3 HW.out HB4.out | exact boxed3 HW.out HB3.out | exact boxed3 HW.out HB2.out | exact boxed3 HW.out HB1.out | go_keep)
    (first
      | ((with_reducible refine (HT.out a _ HA.out).mono ?_); rintro e w2 ⟨rfl, hq⟩; have HB1 := Lib.hid (bTrans (Below.drew (Below.refl _ _)) (quiet_below hq)); clear hq)
      | ((with_reducible refine (HT.out b _ HB.out).mono ?_); rintro e w3 ⟨rfl, hq⟩; have HB2 := Lib.hid (bTrans HB1.out (quiet_below hq)); clear hq)
      | ((with_reducible refine (HR.out _ _ _ Ta.out Tb.out).mono ?_); rintro e w4 ⟨rfl, hq⟩; have HB3 := Lib.hid (bTrans HB2.out (quiet_below hq)); clear hq)
      | ((with_reducible refine (HG.out _ _ Rab.out).mono ?_); rintro e w5 ⟨rfl, hq⟩; have HB4 := Lib.hid (bTrans HB3.out (quiet_below hq)); clear hq))
  go_wp2_with fail
  exact bodyPost_ret (v := .tuple #[.int .u64 (G (R2 (T a) (T b))), .bool true]) (by simp [results, Tryz.results138, go_sem]) rfl ⟨rfl, bTrans HB0.out (bTrans (bAlloc (bAlloc (Below.refl _ _) _) _) HB4.out)⟩
end Go.Proofs.YtegoddghfjfibaaGreatDoor.Al

