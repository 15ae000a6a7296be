/- Contracts of package isa's functions on instructions' numbers: where a number stands, and what it is; own bits; registers. -/
import Derived.Test.YtdpmihlmfephiaaGreatDoorIsaB
namespace Go.Proofs.YtdpmihlmfephiaaGreatDoor
set_option linter.unusedVariables false
set_option linter.unusedSimpArgs false
open Go.Joins Go.ChangeShapes Go.WideShapes Go.ChangeAt Go.RowKit

theorem u32or (a b : Nat) (ha : a < 4294967296) (hb : b < 4294967296) : bits .or .u32 (a : Int) (b : Int) = ((a ||| b : Nat) : Int) := u32_or_nat a b ha hb
theorem or_lt32 (a b : Nat) (ha : a < 4294967296) (hb : b < 4294967296) : a ||| b < 4294967296 := Nat.or_lt_two_pow (n := 32) ha hb
def FAt (u f m A B : Nat) : Prop := ∀ w : World, Calls Tryz.prog 101 #[.int .u32 (u : Int), .int .i64 (f : Int), .int .i64 (m : Int)] w fun e w' => e = .returned (.int .u32 ((u / A % B : Nat) : Int)) ∧ Below w.heap.size w w'
theorem f_at (u f m : Nat) (A B : Nat) (hu : u < 4294967296) (h1 : 1 ≤ m) (h2 : f + m ≤ 32) (hA : 2 ^ f = A) (hB : 2 ^ m = B) : FAt u f m A B := by
  intro w
  have h := field_any u f m w hu (by omega) (by omega) (by omega)
  rw [Int.toNat_natCast, Int.toNat_natCast, hA, hB] at h
  exact h
def ImmP (u : Nat) (s : Int) (k : Int) : Prop := ∀ (n : Int) (w : World), n % 4294967296 = (u : Int) → Calls Tryz.prog 68 #[.int .i64 n, .int .i64 k, .int .i64 s] w fun e w' => e = .returned (.int .u32 ((ibN k u : Nat) : Int)) ∧ Below w.heap.size w w'
theorem immBits2 (u : Nat) (s : Int) (hu : u < 4294967296) : ImmP u s 2 := by
  intro n w hn
  have hr : (u : Int) * 1048576 % 4294967296 = ((ibN 2 u : Nat) : Int) := by
    rw [ibN_2]; simp
  have HR := Lib.hid hr
  have HN := Lib.hid hn
  clear hr hn
  go_enter Tryz.func68, Tryz.ntmps68
  go_wp2_with fail
  go_ret
  exact ⟨ret_int (by rw [← HR.out, ← HN.out]), Below.refl _ _⟩
theorem immBits3 (u : Nat) (s : Int) (hu : u < 4294967296) : ImmP u s 3 := by
  intro n w hn
  have hr : (u : Int) * 1048576 % 4294967296 = ((ibN 3 u : Nat) : Int) := by
    rw [ibN_3]; simp
  have HR := Lib.hid hr
  have HN := Lib.hid hn
  clear hr hn
  go_enter Tryz.func68, Tryz.ntmps68
  go_wp2_with fail
  go_ret
  exact ⟨ret_int (by rw [← HR.out, ← HN.out]), Below.refl _ _⟩
theorem immBits4 (u : Nat) (s : Int) (hu : u < 4294967296) : ImmP u s 4 := by
  intro n w hn
  have ha := f_at u 5 7 32 128 hu (by decide) (by decide) rfl rfl
  obtain ⟨a, ea⟩ : ∃ v, u / 32 % 128 = v := ⟨_, rfl⟩
  have la : a < 128 := by omega
  unfold FAt at ha
  rw [ea] at ha
  have hb := f_at u 0 5 1 32 hu (by decide) (by decide) rfl rfl
  obtain ⟨b, eb⟩ : ∃ v, u / 1 % 32 = v := ⟨_, rfl⟩
  have lb : b < 32 := by omega
  unfold FAt at hb
  rw [eb] at hb
  have hr : ibN 4 u = (a * 33554432 ||| b * 128) := by
    rw [← ea, ← eb, Nat.div_one, ibN_4]
  have HR := Lib.hid hr
  have HN := Lib.hid hn
  have HA := Lib.hid ha
  have HB := Lib.hid hb
  clear hr hn ha ea hb eb
  go_enter Tryz.func68, Tryz.ntmps68
  go_wp2_with fail
  all_goals try rw [HN.out]
  refine (HA.out _).mono ?_; rintro e w1 ⟨rfl, qa⟩; have QA := Lib.hid qa; clear qa
  go_wp2_with fail
  refine (HB.out _).mono ?_; rintro e w2 ⟨rfl, qb⟩; have QB := Lib.hid qb; clear qb
  go_wp2_with fail
  go_ret
  refine ⟨ret_int ?_, (bTrans QA.out QB.out)⟩
  rw [HR.out]
  rw [show (a : Int) * 33554432 = ((a * 33554432 : Nat) : Int) by omega]
  rw [show (b : Int) * 128 = ((b * 128 : Nat) : Int) by omega]
  rw [u32or _ _ (by omega) (by omega)]
theorem immBits5 (u : Nat) (s : Int) (hu : u < 4294967296) : ImmP u s 5 := by
  intro n w hn
  have ha := f_at u 12 1 4096 2 hu (by decide) (by decide) rfl rfl
  obtain ⟨a, ea⟩ : ∃ v, u / 4096 % 2 = v := ⟨_, rfl⟩
  have la : a < 2 := by omega
  unfold FAt at ha
  rw [ea] at ha
  have hb := f_at u 5 6 32 64 hu (by decide) (by decide) rfl rfl
  obtain ⟨b, eb⟩ : ∃ v, u / 32 % 64 = v := ⟨_, rfl⟩
  have lb : b < 64 := by omega
  unfold FAt at hb
  rw [eb] at hb
  have hc := f_at u 1 4 2 16 hu (by decide) (by decide) rfl rfl
  obtain ⟨c, ec⟩ : ∃ v, u / 2 % 16 = v := ⟨_, rfl⟩
  have lc : c < 16 := by omega
  unfold FAt at hc
  rw [ec] at hc
  have hd := f_at u 11 1 2048 2 hu (by decide) (by decide) rfl rfl
  obtain ⟨d, ed⟩ : ∃ v, u / 2048 % 2 = v := ⟨_, rfl⟩
  have ld : d < 2 := by omega
  unfold FAt at hd
  rw [ed] at hd
  have hr : ibN 5 u = (((a * 2147483648 ||| b * 33554432) ||| c * 256) ||| d * 128) := by
    rw [← ea, ← eb, ← ec, ← ed, ibN_5]
  have HR := Lib.hid hr
  have HN := Lib.hid hn
  have HA := Lib.hid ha
  have HB := Lib.hid hb
  have HC := Lib.hid hc
  have HD := Lib.hid hd
  clear hr hn ha ea hb eb hc ec hd ed
  go_enter Tryz.func68, Tryz.ntmps68
  go_wp2_with fail
  all_goals try rw [HN.out]
  refine (HA.out _).mono ?_; rintro e w1 ⟨rfl, qa⟩; have QA := Lib.hid qa; clear qa
  go_wp2_with fail
  refine (HB.out _).mono ?_; rintro e w2 ⟨rfl, qb⟩; have QB := Lib.hid qb; clear qb
  go_wp2_with fail
  refine (HC.out _).mono ?_; rintro e w3 ⟨rfl, qc⟩; have QC := Lib.hid qc; clear qc
  go_wp2_with fail
  refine (HD.out _).mono ?_; rintro e w4 ⟨rfl, qd⟩; have QD := Lib.hid qd; clear qd
  go_wp2_with fail
  go_ret
  refine ⟨ret_int ?_, (bTrans (bTrans (bTrans QA.out QB.out) QC.out) QD.out)⟩
  rw [HR.out]
  rw [show (a : Int) * 2147483648 = ((a * 2147483648 : Nat) : Int) by omega]
  rw [show (b : Int) * 33554432 = ((b * 33554432 : Nat) : Int) by omega]
  rw [show (c : Int) * 256 = ((c * 256 : Nat) : Int) by omega]
  rw [show (d : Int) * 128 = ((d * 128 : Nat) : Int) by omega]
  rw [u32or _ _ (by omega) (by omega)]
  rw [u32or _ _ (or_lt32 _ _ (by omega) (by omega)) (by omega)]
  rw [u32or _ _ (or_lt32 _ _ (or_lt32 _ _ (by omega) (by omega)) (by omega)) (by omega)]
theorem immBits7 (u : Nat) (s : Int) (hu : u < 4294967296) : ImmP u s 7 := by
  intro n w hn
  have ha := f_at u 20 1 1048576 2 hu (by decide) (by decide) rfl rfl
  obtain ⟨a, ea⟩ : ∃ v, u / 1048576 % 2 = v := ⟨_, rfl⟩
  have la : a < 2 := by omega
  unfold FAt at ha
  rw [ea] at ha
  have hb := f_at u 1 10 2 1024 hu (by decide) (by decide) rfl rfl
  obtain ⟨b, eb⟩ : ∃ v, u / 2 % 1024 = v := ⟨_, rfl⟩
  have lb : b < 1024 := by omega
  unfold FAt at hb
  rw [eb] at hb
  have hc := f_at u 11 1 2048 2 hu (by decide) (by decide) rfl rfl
  obtain ⟨c, ec⟩ : ∃ v, u / 2048 % 2 = v := ⟨_, rfl⟩
  have lc : c < 2 := by omega
  unfold FAt at hc
  rw [ec] at hc
  have hd := f_at u 12 8 4096 256 hu (by decide) (by decide) rfl rfl
  obtain ⟨d, ed⟩ : ∃ v, u / 4096 % 256 = v := ⟨_, rfl⟩
  have ld : d < 256 := by omega
  unfold FAt at hd
  rw [ed] at hd
  have hr : ibN 7 u = (((a * 2147483648 ||| b * 2097152) ||| c * 1048576) ||| d * 4096) := by
    rw [← ea, ← eb, ← ec, ← ed, ibN_7]
  have HR := Lib.hid hr
  have HN := Lib.hid hn
  have HA := Lib.hid ha
  have HB := Lib.hid hb
  have HC := Lib.hid hc
  have HD := Lib.hid hd
  clear hr hn ha ea hb eb hc ec hd ed
  go_enter Tryz.func68, Tryz.ntmps68
  go_wp2_with fail
  all_goals try rw [HN.out]
  refine (HA.out _).mono ?_; rintro e w1 ⟨rfl, qa⟩; have QA := Lib.hid qa; clear qa
  go_wp2_with fail
  refine (HB.out _).mono ?_; rintro e w2 ⟨rfl, qb⟩; have QB := Lib.hid qb; clear qb
  go_wp2_with fail
  refine (HC.out _).mono ?_; rintro e w3 ⟨rfl, qc⟩; have QC := Lib.hid qc; clear qc
  go_wp2_with fail
  refine (HD.out _).mono ?_; rintro e w4 ⟨rfl, qd⟩; have QD := Lib.hid qd; clear qd
  go_wp2_with fail
  go_ret
  refine ⟨ret_int ?_, (bTrans (bTrans (bTrans QA.out QB.out) QC.out) QD.out)⟩
  rw [HR.out]
  rw [show (a : Int) * 2147483648 = ((a * 2147483648 : Nat) : Int) by omega]
  rw [show (b : Int) * 2097152 = ((b * 2097152 : Nat) : Int) by omega]
  rw [show (c : Int) * 1048576 = ((c * 1048576 : Nat) : Int) by omega]
  rw [show (d : Int) * 4096 = ((d * 4096 : Nat) : Int) by omega]
  rw [u32or _ _ (by omega) (by omega)]
  rw [u32or _ _ (or_lt32 _ _ (by omega) (by omega)) (by omega)]
  rw [u32or _ _ (or_lt32 _ _ (or_lt32 _ _ (by omega) (by omega)) (by omega)) (by omega)]
theorem immBits6 (u : Nat) (s : Int) (hu : u < 4294967296) : ImmP u s 6 := by
  intro n w hn
  have HN := Lib.hid hn
  clear hn
  go_enter Tryz.func68, Tryz.ntmps68
  go_wp2_with fail
  go_ret
  exact ⟨ret_int (by rw [ibN_6]; exact HN.out), Below.refl _ _⟩
theorem immBits_any (n : Int) (u : Nat) (k s : Int) (w : World) (hn : n % 4294967296 = (u : Int)) :
    Calls Tryz.prog 68 #[.int .i64 n, .int .i64 k, .int .i64 s] w fun e w' => e = .returned (.int .u32 ((ibN k u : Nat) : Int)) ∧ Below w.heap.size w w' := by
  have hu : u < 4294967296 := by omega
  refine kinds (P := ImmP u s) k (immBits2 u s hu) (immBits3 u s hu) (immBits4 u s hu) (immBits5 u s hu) (immBits6 u s hu) (immBits7 u s hu) ?_ n w hn
  intro k f2 f3 f4 f5 f6 f7 n w hn
  have hr : ibN k u = 0 := by simp [ibN, f2, f3, f4, f5, f6, f7]
  have HR := Lib.hid hr
  clear hr hn hu
  go_enter Tryz.func68, Tryz.ntmps68
  go_wp2_with fail
  go_ret
  exact ⟨by rw [HR.out]; rfl, Below.refl _ _⟩
end Go.Proofs.YtdpmihlmfephiaaGreatDoor
