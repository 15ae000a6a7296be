/- IsaE -/
import Derived.Test.YtegoddghfjfibaaGreatDoorZ12
import Derived.Test.YtegoddghfjfibaaGreatDoorZ13
namespace Go.Proofs.YtegoddghfjfibaaGreatDoor.Is
set_option linter.unusedVariables false
set_option linter.unusedSimpArgs false
open Go.Joins Go.ChangeShapes Go.WideShapes Go.ChangeAt Go.RowKit

theorem imm2_5 (x : Nat) (hx : x < 4294967296) : Imm x 5 2 := by
  intro w
  rw [immZ_2_5]
  have ha := f_at x 20 5 1048576 32 hx (by decide) (by decide) rfl rfl
  obtain ⟨a, ea⟩ : ∃ v, x / 1048576 % 32 = v := ⟨_, rfl⟩
  have la : a < 32 := by omega
  unfold FAt at ha
  rw [ea] at ha ⊢
  have HA := Lib.hid ha
  clear ha ea
  go_enter Tryz.func174, Tryz.ntmps174
  go_wp2_with fail
  refine (HA.out _).mono ?_; rintro e w1 ⟨rfl, qa⟩
  go_wp2_with fail
  go_ret
  exact ⟨rfl, qa⟩
theorem imm2_6 (x : Nat) (hx : x < 4294967296) : Imm x 6 2 := by
  intro w
  rw [immZ_2_6]
  have ha := f_at x 20 6 1048576 64 hx (by decide) (by decide) rfl rfl
  obtain ⟨a, ea⟩ : ∃ v, x / 1048576 % 64 = v := ⟨_, rfl⟩
  have la : a < 64 := by omega
  unfold FAt at ha
  rw [ea] at ha ⊢
  have HA := Lib.hid ha
  clear ha ea
  go_enter Tryz.func174, Tryz.ntmps174
  go_wp2_with fail
  refine (HA.out _).mono ?_; rintro e w1 ⟨rfl, qa⟩
  go_wp2_with fail
  go_ret
  exact ⟨rfl, qa⟩
theorem imm2_0 (x : Nat) (hx : x < 4294967296) : Imm x 0 2 := by
  intro w
  rw [immZ_2_0]
  have ha := f_at x 20 12 1048576 4096 hx (by decide) (by decide) rfl rfl
  obtain ⟨a, ea⟩ : ∃ v, x / 1048576 % 4096 = v := ⟨_, rfl⟩
  have la : a < 4096 := by omega
  unfold FAt at ha
  rw [ea] at ha ⊢
  have HA := Lib.hid ha
  clear ha ea
  go_enter Tryz.func174, Tryz.ntmps174
  go_wp2_with fail
  refine (HA.out _).mono ?_; rintro e w1 ⟨rfl, qa⟩
  have QA := Lib.hid qa
  clear qa
  go_wp2_with fail
  refine (sign12_any _ _ la).mono ?_; rintro e w2 ⟨rfl, rfl⟩
  go_wp2_with fail
  go_ret
  exact ⟨rfl, QA.out⟩
theorem imm3_5 (x : Nat) (hx : x < 4294967296) : Imm x 5 3 := by
  intro w
  rw [immZ_3_5]
  have ha := f_at x 20 5 1048576 32 hx (by decide) (by decide) rfl rfl
  obtain ⟨a, ea⟩ : ∃ v, x / 1048576 % 32 = v := ⟨_, rfl⟩
  have la : a < 32 := by omega
  unfold FAt at ha
  rw [ea] at ha ⊢
  have HA := Lib.hid ha
  clear ha ea
  go_enter Tryz.func174, Tryz.ntmps174
  go_wp2_with fail
  refine (HA.out _).mono ?_; rintro e w1 ⟨rfl, qa⟩
  go_wp2_with fail
  go_ret
  exact ⟨rfl, qa⟩
theorem imm3_6 (x : Nat) (hx : x < 4294967296) : Imm x 6 3 := by
  intro w
  rw [immZ_3_6]
  have ha := f_at x 20 6 1048576 64 hx (by decide) (by decide) rfl rfl
  obtain ⟨a, ea⟩ : ∃ v, x / 1048576 % 64 = v := ⟨_, rfl⟩
  have la : a < 64 := by omega
  unfold FAt at ha
  rw [ea] at ha ⊢
  have HA := Lib.hid ha
  clear ha ea
  go_enter Tryz.func174, Tryz.ntmps174
  go_wp2_with fail
  refine (HA.out _).mono ?_; rintro e w1 ⟨rfl, qa⟩
  go_wp2_with fail
  go_ret
  exact ⟨rfl, qa⟩
theorem imm3_0 (x : Nat) (hx : x < 4294967296) : Imm x 0 3 := by
  intro w
  rw [immZ_3_0]
  have ha := f_at x 20 12 1048576 4096 hx (by decide) (by decide) rfl rfl
  obtain ⟨a, ea⟩ : ∃ v, x / 1048576 % 4096 = v := ⟨_, rfl⟩
  have la : a < 4096 := by omega
  unfold FAt at ha
  rw [ea] at ha ⊢
  have HA := Lib.hid ha
  clear ha ea
  go_enter Tryz.func174, Tryz.ntmps174
  go_wp2_with fail
  refine (HA.out _).mono ?_; rintro e w1 ⟨rfl, qa⟩
  have QA := Lib.hid qa
  clear qa
  go_wp2_with fail
  refine (sign12_any _ _ la).mono ?_; rintro e w2 ⟨rfl, rfl⟩
  go_wp2_with fail
  go_ret
  exact ⟨rfl, QA.out⟩
theorem imm4_any (x : Nat) (s : Int) (hx : x < 4294967296) : Imm x s 4 := by
  intro w
  rw [immZ_4]
  have ha := f_at x 25 7 33554432 128 hx (by decide) (by decide) rfl rfl
  obtain ⟨a, ea⟩ : ∃ v, x / 33554432 % 128 = v := ⟨_, rfl⟩
  have la : a < 128 := by omega
  unfold FAt at ha
  rw [ea] at ha ⊢
  have HA := Lib.hid ha
  clear ha ea
  have hb := f_at x 7 5 128 32 hx (by decide) (by decide) rfl rfl
  obtain ⟨b, eb⟩ : ∃ v, x / 128 % 32 = v := ⟨_, rfl⟩
  have lb : b < 32 := by omega
  unfold FAt at hb
  rw [eb] at hb ⊢
  have HB := Lib.hid hb
  clear hb eb
  obtain ⟨X, hX⟩ : ∃ v, a * 32 + b = v := ⟨_, rfl⟩
  have lX : X < 4096 := by omega
  rw [hX]
  have hr : (bits .or .u32 ((a : Int) * 32) (b : Int)) = (X : Int) := by
    rw [show (a : Int) * 32 = ((a * 32 : Nat) : Int) by omega]
    rw [u32or _ _ (by omega) (by omega)]
    rw [show (a * 32) ||| b = a * 32 + b from nat_join 5 (a * 32) b (by omega) (by omega)]
    rw [hX]
  have HR := Lib.hid hr
  clear hr hX
  go_enter Tryz.func174, Tryz.ntmps174
  go_wp2_with fail
  refine (HA.out _).mono ?_; rintro e w1 ⟨rfl, qa⟩; have QA := Lib.hid qa; clear qa
  go_wp2_with fail
  refine (HB.out _).mono ?_; rintro e w2 ⟨rfl, qb⟩; have QB := Lib.hid qb; clear qb
  go_wp2_with fail
  rw [HR.out]
  refine (sign12_any _ _ lX).mono ?_; rintro e w9 ⟨rfl, rfl⟩
  go_wp2_with fail
  go_ret
  exact ⟨rfl, (bTrans QA.out QB.out)⟩
theorem imm5_any (x : Nat) (s : Int) (hx : x < 4294967296) : Imm x s 5 := by
  intro w
  rw [immZ_5]
  have ha := f_at x 31 1 2147483648 2 hx (by decide) (by decide) rfl rfl
  obtain ⟨a, ea⟩ : ∃ v, x / 2147483648 % 2 = v := ⟨_, rfl⟩
  have la : a < 2 := by omega
  unfold FAt at ha
  rw [ea] at ha ⊢
  have HA := Lib.hid ha
  clear ha ea
  have hb := f_at x 7 1 128 2 hx (by decide) (by decide) rfl rfl
  obtain ⟨b, eb⟩ : ∃ v, x / 128 % 2 = v := ⟨_, rfl⟩
  have lb : b < 2 := by omega
  unfold FAt at hb
  rw [eb] at hb ⊢
  have HB := Lib.hid hb
  clear hb eb
  have hc := f_at x 25 6 33554432 64 hx (by decide) (by decide) rfl rfl
  obtain ⟨c, ec⟩ : ∃ v, x / 33554432 % 64 = v := ⟨_, rfl⟩
  have lc : c < 64 := by omega
  unfold FAt at hc
  rw [ec] at hc ⊢
  have HC := Lib.hid hc
  clear hc ec
  have hd := f_at x 8 4 256 16 hx (by decide) (by decide) rfl rfl
  obtain ⟨d, ed⟩ : ∃ v, x / 256 % 16 = v := ⟨_, rfl⟩
  have ld : d < 16 := by omega
  unfold FAt at hd
  rw [ed] at hd ⊢
  have HD := Lib.hid hd
  clear hd ed
  obtain ⟨X, hX⟩ : ∃ v, a * 4096 + b * 2048 + c * 32 + d * 2 = v := ⟨_, rfl⟩
  have lX : X < 8192 := by omega
  rw [hX]
  have hr : (bits .or .u32 (bits .or .u32 (bits .or .u32 ((a : Int) * 4096) ((b : Int) * 2048)) ((c : Int) * 32)) ((d : Int) * 2)) = (X : Int) := by
    rw [show (a : Int) * 4096 = ((a * 4096 : Nat) : Int) by omega]
    rw [show (b : Int) * 2048 = ((b * 2048 : Nat) : Int) by omega]
    rw [show (c : Int) * 32 = ((c * 32 : Nat) : Int) by omega]
    rw [show (d : Int) * 2 = ((d * 2 : Nat) : Int) by omega]
    rw [u32or _ _ (by omega) (by omega)]
    rw [show (a * 4096) ||| b * 2048 = a * 4096 + b * 2048 from or_add (a * 4096) b 11 1 (by omega) (by omega)]
    rw [u32or _ _ (by omega) (by omega)]
    rw [show (a * 4096 + b * 2048) ||| c * 32 = a * 4096 + b * 2048 + c * 32 from or_add (a * 4096 + b * 2048) c 5 6 (by omega) (by omega)]
    rw [u32or _ _ (by omega) (by omega)]
    rw [show (a * 4096 + b * 2048 + c * 32) ||| d * 2 = a * 4096 + b * 2048 + c * 32 + d * 2 from or_add (a * 4096 + b * 2048 + c * 32) d 1 4 (by omega) (by omega)]
    rw [hX]
  have HR := Lib.hid hr
  clear hr hX
  go_enter Tryz.func174, Tryz.ntmps174
  go_wp2_with fail
  refine (HA.out _).mono ?_; rintro e w1 ⟨rfl, qa⟩; have QA := Lib.hid qa; clear qa
  go_wp2_with fail
  refine (HB.out _).mono ?_; rintro e w2 ⟨rfl, qb⟩; have QB := Lib.hid qb; clear qb
  go_wp2_with fail
  refine (HC.out _).mono ?_; rintro e w3 ⟨rfl, qc⟩; have QC := Lib.hid qc; clear qc
  go_wp2_with fail
  refine (HD.out _).mono ?_; rintro e w4 ⟨rfl, qd⟩; have QD := Lib.hid qd; clear qd
  go_wp2_with fail
  rw [HR.out]
  refine (sign13_any _ _ lX).mono ?_; rintro e w9 ⟨rfl, rfl⟩
  go_wp2_with fail
  go_ret
  exact ⟨rfl, (bTrans (bTrans (bTrans QA.out QB.out) QC.out) QD.out)⟩
theorem imm6_any (x : Nat) (s : Int) (hx : x < 4294967296) : Imm x s 6 := by
  intro w
  rw [immZ_6]
  have ha := f_at x 12 20 4096 1048576 hx (by decide) (by decide) rfl rfl
  obtain ⟨a, ea⟩ : ∃ v, x / 4096 % 1048576 = v := ⟨_, rfl⟩
  have la : a < 1048576 := by omega
  unfold FAt at ha
  rw [ea] at ha ⊢
  have HA := Lib.hid ha
  clear ha ea
  obtain ⟨X, hX⟩ : ∃ v, a * 4096 = v := ⟨_, rfl⟩
  have lX : X < 4294967296 := by omega
  rw [hX]
  have hr : ((a : Int) * 4096) = (X : Int) := by
    rw [show (a : Int) * 4096 = ((a * 4096 : Nat) : Int) by omega]
    omega
  have HR := Lib.hid hr
  clear hr hX
  go_enter Tryz.func174, Tryz.ntmps174
  go_wp2_with fail
  refine (HA.out _).mono ?_; rintro e w1 ⟨rfl, qa⟩; have QA := Lib.hid qa; clear qa
  go_wp2_with fail
  rw [HR.out]
  refine (sign32_any _ _ lX).mono ?_; rintro e w9 ⟨rfl, rfl⟩
  go_wp2_with fail
  go_ret
  exact ⟨rfl, QA.out⟩
theorem imm7_any (x : Nat) (s : Int) (hx : x < 4294967296) : Imm x s 7 := by
  intro w
  rw [immZ_7]
  have ha := f_at x 31 1 2147483648 2 hx (by decide) (by decide) rfl rfl
  obtain ⟨a, ea⟩ : ∃ v, x / 2147483648 % 2 = v := ⟨_, rfl⟩
  have la : a < 2 := by omega
  unfold FAt at ha
  rw [ea] at ha ⊢
  have HA := Lib.hid ha
  clear ha ea
  have hb := f_at x 12 8 4096 256 hx (by decide) (by decide) rfl rfl
  obtain ⟨b, eb⟩ : ∃ v, x / 4096 % 256 = v := ⟨_, rfl⟩
  have lb : b < 256 := by omega
  unfold FAt at hb
  rw [eb] at hb ⊢
  have HB := Lib.hid hb
  clear hb eb
  have hc := f_at x 20 1 1048576 2 hx (by decide) (by decide) rfl rfl
  obtain ⟨c, ec⟩ : ∃ v, x / 1048576 % 2 = v := ⟨_, rfl⟩
  have lc : c < 2 := by omega
  unfold FAt at hc
  rw [ec] at hc ⊢
  have HC := Lib.hid hc
  clear hc ec
  have hd := f_at x 21 10 2097152 1024 hx (by decide) (by decide) rfl rfl
  obtain ⟨d, ed⟩ : ∃ v, x / 2097152 % 1024 = v := ⟨_, rfl⟩
  have ld : d < 1024 := by omega
  unfold FAt at hd
  rw [ed] at hd ⊢
  have HD := Lib.hid hd
  clear hd ed
  obtain ⟨X, hX⟩ : ∃ v, a * 1048576 + b * 4096 + c * 2048 + d * 2 = v := ⟨_, rfl⟩
  have lX : X < 2097152 := by omega
  rw [hX]
  have hr : (bits .or .u32 (bits .or .u32 (bits .or .u32 ((a : Int) * 1048576) ((b : Int) * 4096)) ((c : Int) * 2048)) ((d : Int) * 2)) = (X : Int) := by
    rw [show (a : Int) * 1048576 = ((a * 1048576 : Nat) : Int) by omega]
    rw [show (b : Int) * 4096 = ((b * 4096 : Nat) : Int) by omega]
    rw [show (c : Int) * 2048 = ((c * 2048 : Nat) : Int) by omega]
    rw [show (d : Int) * 2 = ((d * 2 : Nat) : Int) by omega]
    rw [u32or _ _ (by omega) (by omega)]
    rw [show (a * 1048576) ||| b * 4096 = a * 1048576 + b * 4096 from or_add (a * 1048576) b 12 8 (by omega) (by omega)]
    rw [u32or _ _ (by omega) (by omega)]
    rw [show (a * 1048576 + b * 4096) ||| c * 2048 = a * 1048576 + b * 4096 + c * 2048 from or_add (a * 1048576 + b * 4096) c 11 1 (by omega) (by omega)]
    rw [u32or _ _ (by omega) (by omega)]
    rw [show (a * 1048576 + b * 4096 + c * 2048) ||| d * 2 = a * 1048576 + b * 4096 + c * 2048 + d * 2 from or_add (a * 1048576 + b * 4096 + c * 2048) d 1 10 (by omega) (by omega)]
    rw [hX]
  have HR := Lib.hid hr
  clear hr hX
  go_enter Tryz.func174, Tryz.ntmps174
  go_wp2_with fail
  refine (HA.out _).mono ?_; rintro e w1 ⟨rfl, qa⟩; have QA := Lib.hid qa; clear qa
  go_wp2_with fail
  refine (HB.out _).mono ?_; rintro e w2 ⟨rfl, qb⟩; have QB := Lib.hid qb; clear qb
  go_wp2_with fail
  refine (HC.out _).mono ?_; rintro e w3 ⟨rfl, qc⟩; have QC := Lib.hid qc; clear qc
  go_wp2_with fail
  refine (HD.out _).mono ?_; rintro e w4 ⟨rfl, qd⟩; have QD := Lib.hid qd; clear qd
  go_wp2_with fail
  rw [HR.out]
  refine (sign21_any _ _ lX).mono ?_; rintro e w9 ⟨rfl, rfl⟩
  go_wp2_with fail
  go_ret
  exact ⟨rfl, (bTrans (bTrans (bTrans QA.out QB.out) QC.out) QD.out)⟩
theorem imm_any (x : Nat) (s k : Int) (hx : x < 4294967296) (hs : s = 0 ∨ s = 5 ∨ s = 6) : Imm x s k := by
  refine kinds (P := Imm x s) k ?_ ?_ (imm4_any x s hx) (imm5_any x s hx) (imm6_any x s hx) (imm7_any x s hx) ?_
  · rcases hs with rfl | rfl | rfl
    · exact imm2_0 x hx
    · exact imm2_5 x hx
    · exact imm2_6 x hx
  · rcases hs with rfl | rfl | rfl
    · exact imm3_0 x hx
    · exact imm3_5 x hx
    · exact imm3_6 x hx
  intro k f2 f3 f4 f5 f6 f7 w
  have hr : immZ k s x = 0 := by simp [immZ, f2, f3, f4, f5, f6, f7]
  rw [hr]
  clear hr hs
  go_enter Tryz.func174, Tryz.ntmps174
  go_wp2_with fail
  go_ret
  exact ⟨rfl, Below.refl _ _⟩
def Own (b : Nat) (k s : Int) : Prop := ∀ w : World, Calls Tryz.prog 133 #[.int .u32 (b : Int)] w fun e w' => e = .returned (.int .u32 ((ownK k s : Nat) : Int)) ∧ Below w.heap.size w w'
theorem own1 (b : Nat) (s : Int) (hb : b < 4294967296) (hk : kindZ b = 1) : Own b 1 s := by
  intro w
  rw [show ownK 1 s = 33525632 by unfold ownK; rfl]
  have h1 := fun w => kindOf_any b w hb
  rw [hk] at h1
  have H1 := Lib.hid h1
  clear h1 hk
  go_enter Tryz.func133, Tryz.ntmps133
  go_wp2_with fail
  refine (H1.out _).mono ?_; rintro e w1 ⟨rfl, q1⟩; have Q1 := Lib.hid q1; clear q1
  go_wp2_with fail
  go_ret
  exact ⟨rfl, Q1.out⟩
theorem own4 (b : Nat) (s : Int) (hb : b < 4294967296) (hk : kindZ b = 4) : Own b 4 s := by
  intro w
  rw [show ownK 4 s = 4294938496 by unfold ownK; rfl]
  have h1 := fun w => kindOf_any b w hb
  rw [hk] at h1
  have H1 := Lib.hid h1
  clear h1 hk
  go_enter Tryz.func133, Tryz.ntmps133
  go_wp2_with fail
  refine (H1.out _).mono ?_; rintro e w1 ⟨rfl, q1⟩; have Q1 := Lib.hid q1; clear q1
  go_wp2_with fail
  go_ret
  exact ⟨rfl, Q1.out⟩
theorem own5 (b : Nat) (s : Int) (hb : b < 4294967296) (hk : kindZ b = 5) : Own b 5 s := by
  intro w
  rw [show ownK 5 s = 4294938496 by unfold ownK; rfl]
  have h1 := fun w => kindOf_any b w hb
  rw [hk] at h1
  have H1 := Lib.hid h1
  clear h1 hk
  go_enter Tryz.func133, Tryz.ntmps133
  go_wp2_with fail
  refine (H1.out _).mono ?_; rintro e w1 ⟨rfl, q1⟩; have Q1 := Lib.hid q1; clear q1
  go_wp2_with fail
  go_ret
  exact ⟨rfl, Q1.out⟩
theorem own6 (b : Nat) (s : Int) (hb : b < 4294967296) (hk : kindZ b = 6) : Own b 6 s := by
  intro w
  rw [show ownK 6 s = 4294967168 by unfold ownK; rfl]
  have h1 := fun w => kindOf_any b w hb
  rw [hk] at h1
  have H1 := Lib.hid h1
  clear h1 hk
  go_enter Tryz.func133, Tryz.ntmps133
  go_wp2_with fail
  refine (H1.out _).mono ?_; rintro e w1 ⟨rfl, q1⟩; have Q1 := Lib.hid q1; clear q1
  go_wp2_with fail
  go_ret
  exact ⟨rfl, Q1.out⟩
theorem own7 (b : Nat) (s : Int) (hb : b < 4294967296) (hk : kindZ b = 7) : Own b 7 s := by
  intro w
  rw [show ownK 7 s = 4294967168 by unfold ownK; rfl]
  have h1 := fun w => kindOf_any b w hb
  rw [hk] at h1
  have H1 := Lib.hid h1
  clear h1 hk
  go_enter Tryz.func133, Tryz.ntmps133
  go_wp2_with fail
  refine (H1.out _).mono ?_; rintro e w1 ⟨rfl, q1⟩; have Q1 := Lib.hid q1; clear q1
  go_wp2_with fail
  go_ret
  exact ⟨rfl, Q1.out⟩
theorem own8 (b : Nat) (s : Int) (hb : b < 4294967296) (hk : kindZ b = 8) : Own b 8 s := by
  intro w
  rw [show ownK 8 s = 1019776 by unfold ownK; rfl]
  have h1 := fun w => kindOf_any b w hb
  rw [hk] at h1
  have H1 := Lib.hid h1
  clear h1 hk
  go_enter Tryz.func133, Tryz.ntmps133
  go_wp2_with fail
  refine (H1.out _).mono ?_; rintro e w1 ⟨rfl, q1⟩; have Q1 := Lib.hid q1; clear q1
  go_wp2_with fail
  go_ret
  exact ⟨rfl, Q1.out⟩
theorem own9 (b : Nat) (s : Int) (hb : b < 4294967296) (hk : kindZ b = 9) : Own b 9 s := by
  intro w
  rw [show ownK 9 s = 0 by unfold ownK; rfl]
  have h1 := fun w => kindOf_any b w hb
  rw [hk] at h1
  have H1 := Lib.hid h1
  clear h1 hk
  go_enter Tryz.func133, Tryz.ntmps133
  go_wp2_with fail
  refine (H1.out _).mono ?_; rintro e w1 ⟨rfl, q1⟩; have Q1 := Lib.hid q1; clear q1
  go_wp2_with fail
  go_ret
  exact ⟨rfl, Q1.out⟩
theorem own10 (b : Nat) (s : Int) (hb : b < 4294967296) (hk : kindZ b = 10) : Own b 10 s := by
  intro w
  rw [show ownK 10 s = 33521664 by unfold ownK; rfl]
  have h1 := fun w => kindOf_any b w hb
  rw [hk] at h1
  have H1 := Lib.hid h1
  clear h1 hk
  go_enter Tryz.func133, Tryz.ntmps133
  go_wp2_with fail
  refine (H1.out _).mono ?_; rintro e w1 ⟨rfl, q1⟩; have Q1 := Lib.hid q1; clear q1
  go_wp2_with fail
  go_ret
  exact ⟨rfl, Q1.out⟩
theorem own2_0 (b : Nat) (hb : b < 4294967296) (hk : kindZ b = 2) (hs : shiftZ b = 0) : Own b 2 0 := by
  intro w
  rw [show ownK 2 0 = 4294938496 by decide]
  have h1 := fun w => kindOf_any b w hb
  have h2 := fun w => shift_any b w hb
  rw [hk] at h1
  rw [hs] at h2
  have H1 := Lib.hid h1
  have H2 := Lib.hid h2
  clear h1 hk h2 hs
  go_enter Tryz.func133, Tryz.ntmps133
  go_wp2_with fail
  refine (H1.out _).mono ?_; rintro e w1 ⟨rfl, q1⟩; have Q1 := Lib.hid q1; clear q1
  go_wp2_with fail
  refine (H2.out _).mono ?_; rintro e w2 ⟨rfl, q2⟩; have Q2 := Lib.hid (bTrans Q1.out q2); clear q2 Q1
  go_wp2_with fail
  go_ret
  exact ⟨rfl, Q2.out⟩
theorem own2_5 (b : Nat) (hb : b < 4294967296) (hk : kindZ b = 2) (hs : shiftZ b = 5) : Own b 2 5 := by
  intro w
  rw [show ownK 2 5 = 33525632 by decide]
  have h1 := fun w => kindOf_any b w hb
  have h2 := fun w => shift_any b w hb
  rw [hk] at h1
  rw [hs] at h2
  have H1 := Lib.hid h1
  have H2 := Lib.hid h2
  clear h1 hk h2 hs
  go_enter Tryz.func133, Tryz.ntmps133
  go_wp2_with fail
  refine (H1.out _).mono ?_; rintro e w1 ⟨rfl, q1⟩; have Q1 := Lib.hid q1; clear q1
  go_wp2_with fail
  refine (H2.out _).mono ?_; rintro e w2 ⟨rfl, q2⟩; have Q2 := Lib.hid (bTrans Q1.out q2); clear q2 Q1
  go_wp2_with fail
  go_ret
  exact ⟨rfl, Q2.out⟩
theorem own2_6 (b : Nat) (hb : b < 4294967296) (hk : kindZ b = 2) (hs : shiftZ b = 6) : Own b 2 6 := by
  intro w
  rw [show ownK 2 6 = 67080064 by decide]
  have h1 := fun w => kindOf_any b w hb
  have h2 := fun w => shift_any b w hb
  rw [hk] at h1
  rw [hs] at h2
  have H1 := Lib.hid h1
  have H2 := Lib.hid h2
  clear h1 hk h2 hs
  go_enter Tryz.func133, Tryz.ntmps133
  go_wp2_with fail
  refine (H1.out _).mono ?_; rintro e w1 ⟨rfl, q1⟩; have Q1 := Lib.hid q1; clear q1
  go_wp2_with fail
  refine (H2.out _).mono ?_; rintro e w2 ⟨rfl, q2⟩; have Q2 := Lib.hid (bTrans Q1.out q2); clear q2 Q1
  go_wp2_with fail
  go_ret
  exact ⟨rfl, Q2.out⟩
theorem own3_0 (b : Nat) (hb : b < 4294967296) (hk : kindZ b = 3) (hs : shiftZ b = 0) : Own b 3 0 := by
  intro w
  rw [show ownK 3 0 = 4294938496 by decide]
  have h1 := fun w => kindOf_any b w hb
  have h2 := fun w => shift_any b w hb
  rw [hk] at h1
  rw [hs] at h2
  have H1 := Lib.hid h1
  have H2 := Lib.hid h2
  clear h1 hk h2 hs
  go_enter Tryz.func133, Tryz.ntmps133
  go_wp2_with fail
  refine (H1.out _).mono ?_; rintro e w1 ⟨rfl, q1⟩; have Q1 := Lib.hid q1; clear q1
  go_wp2_with fail
  refine (H2.out _).mono ?_; rintro e w2 ⟨rfl, q2⟩; have Q2 := Lib.hid (bTrans Q1.out q2); clear q2 Q1
  go_wp2_with fail
  go_ret
  exact ⟨rfl, Q2.out⟩
/-- what the functions of an operation's own number answer -/
def Knows (op : Int) (b : Nat) : Prop := (shiftZ b = 0 ∨ shiftZ b = 5 ∨ shiftZ b = 6) ∧ b < 4294967296 ∧ Own b (kindZ b) (shiftZ b) ∧ ∀ x, x < 4294967296 → ReadP op (kindZ b) (shiftZ b) b x
theorem knows (op : Int) (h1 : 1 ≤ op) (h2 : op ≤ 82) : Knows op (bareN op) := by
  refine classes (P := Knows op) op h1 h2 ?_ ?_ ?_ ?_ ?_ ?_ ?_ ?_ ?_ ?_ ?_
  · rintro b hb hk hs - - -
    unfold Knows
    rw [hs, hk]
    exact ⟨.inl rfl, by omega, own1 b 0 (by omega) hk, fun x hx => read1 op 0 b x (by omega) hx hk hs (imm_any x 0 1 hx (.inl rfl))⟩
  · rintro b hb hk hs -
    rcases hk with hk | hk
    · unfold Knows
      rw [hs, hk]
      exact ⟨.inl rfl, by omega, own2_0 b (by omega) hk hs, fun x hx => read2 op 0 b x (by omega) hx hk hs (imm_any x 0 2 hx (.inl rfl))⟩
    · unfold Knows
      rw [hs, hk]
      exact ⟨.inl rfl, by omega, own3_0 b (by omega) hk hs, fun x hx => read3 op 0 b x (by omega) hx hk hs (imm_any x 0 3 hx (.inl rfl))⟩
  · rintro b hb hk hs - - -
    unfold Knows
    rw [hs, hk]
    exact ⟨.inr (.inr rfl), by omega, own2_6 b (by omega) hk hs, fun x hx => read2 op 6 b x (by omega) hx hk hs (imm_any x 6 2 hx (.inr (.inr rfl)))⟩
  · rintro b hb hk hs - - -
    unfold Knows
    rw [hs, hk]
    exact ⟨.inr (.inl rfl), by omega, own2_5 b (by omega) hk hs, fun x hx => read2 op 5 b x (by omega) hx hk hs (imm_any x 5 2 hx (.inr (.inl rfl)))⟩
  · rintro b hb hk hs -
    unfold Knows
    rw [hs, hk]
    exact ⟨.inl rfl, by omega, own4 b 0 (by omega) hk, fun x hx => read4 op 0 b x (by omega) hx hk hs (imm_any x 0 4 hx (.inl rfl))⟩
  · rintro b hb hk hs -
    unfold Knows
    rw [hs, hk]
    exact ⟨.inl rfl, by omega, own5 b 0 (by omega) hk, fun x hx => read5 op 0 b x (by omega) hx hk hs (imm_any x 0 5 hx (.inl rfl))⟩
  · rintro b hb hk hs
    unfold Knows
    rw [hs, hk]
    exact ⟨.inl rfl, by omega, own6 b 0 (by omega) hk, fun x hx => read6 op 0 b x (by omega) hx hk hs (imm_any x 0 6 hx (.inl rfl))⟩
  · rintro b hb hk hs
    unfold Knows
    rw [hs, hk]
    exact ⟨.inl rfl, by omega, own7 b 0 (by omega) hk, fun x hx => read7 op 0 b x (by omega) hx hk hs (imm_any x 0 7 hx (.inl rfl))⟩
  · rintro b hb hk hs - -
    unfold Knows
    rw [hs, hk]
    exact ⟨.inl rfl, by omega, own8 b 0 (by omega) hk, fun x hx => read8 op 0 b x (by omega) hx hk hs (imm_any x 0 8 hx (.inl rfl))⟩
  · rintro b hb hk hs
    unfold Knows
    rw [hs, hk]
    exact ⟨.inl rfl, by omega, own9 b 0 (by omega) hk, fun x hx => read9 op 0 b x (by omega) hx hk hs (imm_any x 0 9 hx (.inl rfl))⟩
  · rintro b hb hk hs - -
    unfold Knows
    rw [hs, hk]
    exact ⟨.inl rfl, by omega, own10 b 0 (by omega) hk, fun x hx => read10 op 0 b x (by omega) hx hk hs (imm_any x 0 10 hx (.inl rfl))⟩
end Go.Proofs.YtegoddghfjfibaaGreatDoor.Is

