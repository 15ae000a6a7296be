/- Contracts of the document's may and Imm. -/
import Derived.Test.YtdpmihlmfephiaaGreatDoorIsaS
namespace Go.Proofs.YtdpmihlmfephiaaGreatDoor
set_option linter.unusedVariables false
set_option linter.unusedSimpArgs false
open Go.Joins Go.ChangeShapes Go.WideShapes Go.ChangeAt Go.RowKit

/-- an operation as a value -/
def operV (s : List UInt8) (k c f3 f7 sh : Int) : Value := .agg #[.string ⟨s.toArray⟩, .int .i64 k, .int .i64 c, .int .i64 f3, .int .i64 f7, .int .i64 sh]
def May (s : List UInt8) (c f3 f7 n sh : Int) (k : Int) : Prop := ∀ w : World, Calls Tryz.prog 95 #[operV s k c f3 f7 sh, .int .i64 n] w fun e w' => e = .returned (.bool (immB k sh n)) ∧ Below w.heap.size w w'
theorem may2_5 (s : List UInt8) (c f3 f7 n : Int) : May s c f3 f7 n 5 2 := by
  intro w
  unfold operV
  go_enter Tryz.func95, Tryz.ntmps95
  go_wp2_with fail
  all_goals (refine bodyPost_ret (v := .bool (immB 2 5 n)) ?_ rfl ⟨rfl, bAlloc (Below.refl _ _) _⟩)
  all_goals first
    | (simp [results, Tryz.results95, go_sem, immB, *]; done)
    | (simp [results, Tryz.results95, go_sem, immB, *]; omega)
    | (simp [results, Tryz.results95, go_sem, immB, *]; rw [Bool.eq_iff_iff]; simp; omega)
theorem may2_6 (s : List UInt8) (c f3 f7 n : Int) : May s c f3 f7 n 6 2 := by
  intro w
  unfold operV
  go_enter Tryz.func95, Tryz.ntmps95
  go_wp2_with fail
  all_goals (refine bodyPost_ret (v := .bool (immB 2 6 n)) ?_ rfl ⟨rfl, bAlloc (Below.refl _ _) _⟩)
  all_goals first
    | (simp [results, Tryz.results95, go_sem, immB, *]; done)
    | (simp [results, Tryz.results95, go_sem, immB, *]; omega)
    | (simp [results, Tryz.results95, go_sem, immB, *]; rw [Bool.eq_iff_iff]; simp; omega)
theorem may2_0 (s : List UInt8) (c f3 f7 n : Int) : May s c f3 f7 n 0 2 := by
  intro w
  unfold operV
  go_enter Tryz.func95, Tryz.ntmps95
  go_wp2_with fail
  all_goals (refine bodyPost_ret (v := .bool (immB 2 0 n)) ?_ rfl ⟨rfl, bAlloc (Below.refl _ _) _⟩)
  all_goals first
    | (simp [results, Tryz.results95, go_sem, immB, *]; done)
    | (simp [results, Tryz.results95, go_sem, immB, *]; omega)
    | (simp [results, Tryz.results95, go_sem, immB, *]; rw [Bool.eq_iff_iff]; simp; omega)
theorem may3_0 (s : List UInt8) (c f3 f7 n : Int) : May s c f3 f7 n 0 3 := by
  intro w
  unfold operV
  go_enter Tryz.func95, Tryz.ntmps95
  go_wp2_with fail
  all_goals (refine bodyPost_ret (v := .bool (immB 3 0 n)) ?_ rfl ⟨rfl, bAlloc (Below.refl _ _) _⟩)
  all_goals first
    | (simp [results, Tryz.results95, go_sem, immB, *]; done)
    | (simp [results, Tryz.results95, go_sem, immB, *]; omega)
    | (simp [results, Tryz.results95, go_sem, immB, *]; rw [Bool.eq_iff_iff]; simp; omega)
theorem may4_0 (s : List UInt8) (c f3 f7 n : Int) : May s c f3 f7 n 0 4 := by
  intro w
  unfold operV
  go_enter Tryz.func95, Tryz.ntmps95
  go_wp2_with fail
  all_goals (refine bodyPost_ret (v := .bool (immB 4 0 n)) ?_ rfl ⟨rfl, bAlloc (Below.refl _ _) _⟩)
  all_goals first
    | (simp [results, Tryz.results95, go_sem, immB, *]; done)
    | (simp [results, Tryz.results95, go_sem, immB, *]; omega)
    | (simp [results, Tryz.results95, go_sem, immB, *]; rw [Bool.eq_iff_iff]; simp; omega)
theorem may5_0 (s : List UInt8) (c f3 f7 n : Int) : May s c f3 f7 n 0 5 := by
  intro w
  unfold operV
  have ht : (n.tmod 2 == 0) = (n % 2 == 0) := tmod_zero n 2
  by_cases hz : n % 2 = 0
  · rw [show (n % 2 == 0) = true by rw [beq_iff_eq]; exact hz] at ht
    go_enter Tryz.func95, Tryz.ntmps95
    go_wp2_with fail
    all_goals (refine bodyPost_ret (v := .bool (immB 5 0 n)) ?_ rfl ⟨rfl, bAlloc (Below.refl _ _) _⟩)
    all_goals first
      | (simp [results, Tryz.results95, go_sem, immB, *]; done)
      | (simp [results, Tryz.results95, go_sem, immB, *]; omega)
      | (simp [results, Tryz.results95, go_sem, immB, *]; rw [Bool.eq_iff_iff]; simp; omega)
  · rw [show (n % 2 == 0) = false from beq_false_of_ne hz] at ht
    go_enter Tryz.func95, Tryz.ntmps95
    go_wp2_with fail
    all_goals (refine bodyPost_ret (v := .bool (immB 5 0 n)) ?_ rfl ⟨rfl, bAlloc (Below.refl _ _) _⟩)
    all_goals first
      | (simp [results, Tryz.results95, go_sem, immB, *]; done)
      | (simp [results, Tryz.results95, go_sem, immB, *]; omega)
      | (simp [results, Tryz.results95, go_sem, immB, *]; rw [Bool.eq_iff_iff]; simp; omega)
theorem may6_0 (s : List UInt8) (c f3 f7 n : Int) : May s c f3 f7 n 0 6 := by
  intro w
  unfold operV
  have ht : (n.tmod 4096 == 0) = (n % 4096 == 0) := tmod_zero n 4096
  by_cases hz : n % 4096 = 0
  · rw [show (n % 4096 == 0) = true by rw [beq_iff_eq]; exact hz] at ht
    go_enter Tryz.func95, Tryz.ntmps95
    go_wp2_with fail
    all_goals (refine bodyPost_ret (v := .bool (immB 6 0 n)) ?_ rfl ⟨rfl, bAlloc (Below.refl _ _) _⟩)
    all_goals first
      | (simp [results, Tryz.results95, go_sem, immB, *]; done)
      | (simp [results, Tryz.results95, go_sem, immB, *]; omega)
      | (simp [results, Tryz.results95, go_sem, immB, *]; rw [Bool.eq_iff_iff]; simp; omega)
  · rw [show (n % 4096 == 0) = false from beq_false_of_ne hz] at ht
    go_enter Tryz.func95, Tryz.ntmps95
    go_wp2_with fail
    all_goals (refine bodyPost_ret (v := .bool (immB 6 0 n)) ?_ rfl ⟨rfl, bAlloc (Below.refl _ _) _⟩)
    all_goals first
      | (simp [results, Tryz.results95, go_sem, immB, *]; done)
      | (simp [results, Tryz.results95, go_sem, immB, *]; omega)
      | (simp [results, Tryz.results95, go_sem, immB, *]; rw [Bool.eq_iff_iff]; simp; omega)
theorem may7_0 (s : List UInt8) (c f3 f7 n : Int) : May s c f3 f7 n 0 7 := by
  intro w
  unfold operV
  have ht : (n.tmod 2 == 0) = (n % 2 == 0) := tmod_zero n 2
  by_cases hz : n % 2 = 0
  · rw [show (n % 2 == 0) = true by rw [beq_iff_eq]; exact hz] at ht
    go_enter Tryz.func95, Tryz.ntmps95
    go_wp2_with fail
    all_goals (refine bodyPost_ret (v := .bool (immB 7 0 n)) ?_ rfl ⟨rfl, bAlloc (Below.refl _ _) _⟩)
    all_goals first
      | (simp [results, Tryz.results95, go_sem, immB, *]; done)
      | (simp [results, Tryz.results95, go_sem, immB, *]; omega)
      | (simp [results, Tryz.results95, go_sem, immB, *]; rw [Bool.eq_iff_iff]; simp; omega)
  · rw [show (n % 2 == 0) = false from beq_false_of_ne hz] at ht
    go_enter Tryz.func95, Tryz.ntmps95
    go_wp2_with fail
    all_goals (refine bodyPost_ret (v := .bool (immB 7 0 n)) ?_ rfl ⟨rfl, bAlloc (Below.refl _ _) _⟩)
    all_goals first
      | (simp [results, Tryz.results95, go_sem, immB, *]; done)
      | (simp [results, Tryz.results95, go_sem, immB, *]; omega)
      | (simp [results, Tryz.results95, go_sem, immB, *]; rw [Bool.eq_iff_iff]; simp; omega)
theorem may_any (s : List UInt8) (k c f3 f7 sh n : Int) (w : World) (hs : sh = 0 ∨ (k = 2 ∧ (sh = 5 ∨ sh = 6))) :
    Calls Tryz.prog 95 #[operV s k c f3 f7 sh, .int .i64 n] w fun e w' => e = .returned (.bool (immB k sh n)) ∧ Below w.heap.size w w' := by
  rcases hs with rfl | ⟨rfl, rfl | rfl⟩
  · refine kinds (P := May s c f3 f7 n 0) k (may2_0 s c f3 f7 n) (may3_0 s c f3 f7 n) (may4_0 s c f3 f7 n) (may5_0 s c f3 f7 n) (may6_0 s c f3 f7 n) (may7_0 s c f3 f7 n) ?_ w
    intro k g2 g3 g4 g5 g6 g7 w
    have hr : immB k 0 n = (n == 0) := by simp [immB, g2, g3, g4, g5, g6, g7]; rw [Bool.eq_iff_iff]; simp
    rw [hr]
    clear hr
    unfold operV
    go_enter Tryz.func95, Tryz.ntmps95
    go_wp2_with fail
    go_ret
    exact ⟨rfl, bAlloc (Below.refl _ _) _⟩
  · exact may2_5 s c f3 f7 n w
  · exact may2_6 s c f3 f7 n w
def RImm (s : List UInt8) (c f3 f7 sh : Int) (x : Nat) (k : Int) : Prop := ∀ w : World, Calls Tryz.prog 91 #[operV s k c f3 f7 sh, .int .u32 (x : Int)] w fun e w' => e = .returned (.int .i64 (immZ k sh x)) ∧ Below w.heap.size w w'
theorem rimm2_5 (s : List UInt8) (c f3 f7 : Int) (x : Nat) (hx : x < 4294967296) : RImm s c f3 f7 5 x 2 := by
  intro w
  rw [immZ_2_5]
  have ha := fun w => rfield_any x 20 5 w hx (by decide)
  obtain ⟨a, ea⟩ : ∃ v, x / 1048576 % 32 = v := ⟨_, rfl⟩
  have la : a < 32 := by omega
  rw [show x / 2 ^ 20 % 2 ^ 5 = x / 1048576 % 32 by rfl, ea] at ha
  rw [ea]
  have HA := Lib.hid ha
  clear ha ea
  unfold operV
  go_enter Tryz.func91, Tryz.ntmps91
  go_wp2_with fail
  refine (HA.out _).mono ?_; rintro e w1 ⟨rfl, rfl⟩
  go_wp2_with fail
  go_ret
  exact ⟨rfl, bAlloc (Below.refl _ _) _⟩
theorem rimm2_6 (s : List UInt8) (c f3 f7 : Int) (x : Nat) (hx : x < 4294967296) : RImm s c f3 f7 6 x 2 := by
  intro w
  rw [immZ_2_6]
  have ha := fun w => rfield_any x 20 6 w hx (by decide)
  obtain ⟨a, ea⟩ : ∃ v, x / 1048576 % 64 = v := ⟨_, rfl⟩
  have la : a < 64 := by omega
  rw [show x / 2 ^ 20 % 2 ^ 6 = x / 1048576 % 64 by rfl, ea] at ha
  rw [ea]
  have HA := Lib.hid ha
  clear ha ea
  unfold operV
  go_enter Tryz.func91, Tryz.ntmps91
  go_wp2_with fail
  refine (HA.out _).mono ?_; rintro e w1 ⟨rfl, rfl⟩
  go_wp2_with fail
  go_ret
  exact ⟨rfl, bAlloc (Below.refl _ _) _⟩
theorem rimm2_0 (s : List UInt8) (c f3 f7 : Int) (x : Nat) (hx : x < 4294967296) : RImm s c f3 f7 0 x 2 := by
  intro w
  rw [immZ_2_0]
  have ha := fun w => rfield_any x 20 12 w hx (by decide)
  obtain ⟨a, ea⟩ : ∃ v, x / 1048576 % 4096 = v := ⟨_, rfl⟩
  have la : a < 4096 := by omega
  rw [show x / 2 ^ 20 % 2 ^ 12 = x / 1048576 % 4096 by rfl, ea] at ha
  rw [ea]
  have HA := Lib.hid ha
  clear ha ea
  unfold operV
  go_enter Tryz.func91, Tryz.ntmps91
  go_wp2_with fail
  refine (HA.out _).mono ?_; rintro e w1 ⟨rfl, rfl⟩
  go_wp2_with fail
  refine (rbelow12 a _ la).mono ?_; rintro e w2 ⟨rfl, rfl⟩
  go_wp2_with fail
  go_ret
  exact ⟨rfl, bAlloc (Below.refl _ _) _⟩
theorem rimm3_0 (s : List UInt8) (c f3 f7 : Int) (x : Nat) (hx : x < 4294967296) : RImm s c f3 f7 0 x 3 := by
  intro w
  rw [immZ_3_0]
  have ha := fun w => rfield_any x 20 12 w hx (by decide)
  obtain ⟨a, ea⟩ : ∃ v, x / 1048576 % 4096 = v := ⟨_, rfl⟩
  have la : a < 4096 := by omega
  rw [show x / 2 ^ 20 % 2 ^ 12 = x / 1048576 % 4096 by rfl, ea] at ha
  rw [ea]
  have HA := Lib.hid ha
  clear ha ea
  unfold operV
  go_enter Tryz.func91, Tryz.ntmps91
  go_wp2_with fail
  refine (HA.out _).mono ?_; rintro e w1 ⟨rfl, rfl⟩
  go_wp2_with fail
  refine (rbelow12 a _ la).mono ?_; rintro e w2 ⟨rfl, rfl⟩
  go_wp2_with fail
  go_ret
  exact ⟨rfl, bAlloc (Below.refl _ _) _⟩
theorem rimm4_any (s : List UInt8) (c_ f3 f7 sh : Int) (x : Nat) (hx : x < 4294967296) : RImm s c_ f3 f7 sh x 4 := by
  intro w
  rw [immZ_4]
  have ha := fun w => rfield_any x 7 5 w hx (by decide)
  obtain ⟨a, ea⟩ : ∃ v, x / 128 % 32 = v := ⟨_, rfl⟩
  have la : a < 32 := by omega
  rw [show x / 2 ^ 7 % 2 ^ 5 = x / 128 % 32 by rfl, ea] at ha
  rw [ea]
  have HA := Lib.hid ha
  clear ha ea
  have hb := fun w => rfield_any x 25 7 w hx (by decide)
  obtain ⟨b, eb⟩ : ∃ v, x / 33554432 % 128 = v := ⟨_, rfl⟩
  have lb : b < 128 := by omega
  rw [show x / 2 ^ 25 % 2 ^ 7 = x / 33554432 % 128 by rfl, eb] at hb
  rw [eb]
  have HB := Lib.hid hb
  clear hb eb
  obtain ⟨X, hX⟩ : ∃ v, b * 32 + a = v := ⟨_, rfl⟩
  have lX : X < 4096 := by omega
  rw [hX]
  have hr : (a : Int) + 32 * (b : Int) = (X : Int) := by omega
  have HR := Lib.hid hr
  clear hr hX hx
  unfold operV
  go_enter Tryz.func91, Tryz.ntmps91
  go_wp2_with fail
  refine (HA.out _).mono ?_; rintro e w1 ⟨rfl, rfl⟩
  go_wp2_with fail
  refine (HB.out _).mono ?_; rintro e w2 ⟨rfl, rfl⟩
  go_wp2_with fail
  rw [HR.out]
  refine (rbelow12 X _ lX).mono ?_; rintro e w9 ⟨rfl, rfl⟩
  go_wp2_with fail
  go_ret
  exact ⟨rfl, bAlloc (Below.refl _ _) _⟩
theorem rimm5_any (s : List UInt8) (c_ f3 f7 sh : Int) (x : Nat) (hx : x < 4294967296) : RImm s c_ f3 f7 sh x 5 := by
  intro w
  rw [immZ_5]
  have ha := fun w => rfield_any x 8 4 w hx (by decide)
  obtain ⟨a, ea⟩ : ∃ v, x / 256 % 16 = v := ⟨_, rfl⟩
  have la : a < 16 := by omega
  rw [show x / 2 ^ 8 % 2 ^ 4 = x / 256 % 16 by rfl, ea] at ha
  rw [ea]
  have HA := Lib.hid ha
  clear ha ea
  have hb := fun w => rfield_any x 25 6 w hx (by decide)
  obtain ⟨b, eb⟩ : ∃ v, x / 33554432 % 64 = v := ⟨_, rfl⟩
  have lb : b < 64 := by omega
  rw [show x / 2 ^ 25 % 2 ^ 6 = x / 33554432 % 64 by rfl, eb] at hb
  rw [eb]
  have HB := Lib.hid hb
  clear hb eb
  have hc := fun w => rfield_any x 7 1 w hx (by decide)
  obtain ⟨c, ec⟩ : ∃ v, x / 128 % 2 = v := ⟨_, rfl⟩
  have lc : c < 2 := by omega
  rw [show x / 2 ^ 7 % 2 ^ 1 = x / 128 % 2 by rfl, ec] at hc
  rw [ec]
  have HC := Lib.hid hc
  clear hc ec
  have hd := fun w => rfield_any x 31 1 w hx (by decide)
  obtain ⟨d, ed⟩ : ∃ v, x / 2147483648 % 2 = v := ⟨_, rfl⟩
  have ld : d < 2 := by omega
  rw [show x / 2 ^ 31 % 2 ^ 1 = x / 2147483648 % 2 by rfl, ed] at hd
  rw [ed]
  have HD := Lib.hid hd
  clear hd ed
  obtain ⟨X, hX⟩ : ∃ v, d * 4096 + c * 2048 + b * 32 + a * 2 = v := ⟨_, rfl⟩
  have lX : X < 8192 := by omega
  rw [hX]
  have hr : 2 * (a : Int) + 32 * (b : Int) + 2048 * (c : Int) + 4096 * (d : Int) = (X : Int) := by omega
  have HR := Lib.hid hr
  clear hr hX hx
  unfold operV
  go_enter Tryz.func91, Tryz.ntmps91
  go_wp2_with fail
  refine (HA.out _).mono ?_; rintro e w1 ⟨rfl, rfl⟩
  go_wp2_with fail
  refine (HB.out _).mono ?_; rintro e w2 ⟨rfl, rfl⟩
  go_wp2_with fail
  refine (HC.out _).mono ?_; rintro e w3 ⟨rfl, rfl⟩
  go_wp2_with fail
  refine (HD.out _).mono ?_; rintro e w4 ⟨rfl, rfl⟩
  go_wp2_with fail
  rw [HR.out]
  refine (rbelow13 X _ lX).mono ?_; rintro e w9 ⟨rfl, rfl⟩
  go_wp2_with fail
  go_ret
  exact ⟨rfl, bAlloc (Below.refl _ _) _⟩
theorem rimm6_any (s : List UInt8) (c_ f3 f7 sh : Int) (x : Nat) (hx : x < 4294967296) : RImm s c_ f3 f7 sh x 6 := by
  intro w
  rw [immZ_6]
  have ha := fun w => rfield_any x 12 20 w hx (by decide)
  obtain ⟨a, ea⟩ : ∃ v, x / 4096 % 1048576 = v := ⟨_, rfl⟩
  have la : a < 1048576 := by omega
  rw [show x / 2 ^ 12 % 2 ^ 20 = x / 4096 % 1048576 by rfl, ea] at ha
  rw [ea]
  have HA := Lib.hid ha
  clear ha ea
  obtain ⟨X, hX⟩ : ∃ v, a * 4096 = v := ⟨_, rfl⟩
  have lX : X < 4294967296 := by omega
  rw [hX]
  have hr : 4096 * (a : Int) = (X : Int) := by omega
  have HR := Lib.hid hr
  clear hr hX hx
  unfold operV
  go_enter Tryz.func91, Tryz.ntmps91
  go_wp2_with fail
  refine (HA.out _).mono ?_; rintro e w1 ⟨rfl, rfl⟩
  go_wp2_with fail
  rw [HR.out]
  refine (rbelow32 X _ lX).mono ?_; rintro e w9 ⟨rfl, rfl⟩
  go_wp2_with fail
  go_ret
  exact ⟨rfl, bAlloc (Below.refl _ _) _⟩
theorem rimm7_any (s : List UInt8) (c_ f3 f7 sh : Int) (x : Nat) (hx : x < 4294967296) : RImm s c_ f3 f7 sh x 7 := by
  intro w
  rw [immZ_7]
  have ha := fun w => rfield_any x 21 10 w hx (by decide)
  obtain ⟨a, ea⟩ : ∃ v, x / 2097152 % 1024 = v := ⟨_, rfl⟩
  have la : a < 1024 := by omega
  rw [show x / 2 ^ 21 % 2 ^ 10 = x / 2097152 % 1024 by rfl, ea] at ha
  rw [ea]
  have HA := Lib.hid ha
  clear ha ea
  have hb := fun w => rfield_any x 20 1 w hx (by decide)
  obtain ⟨b, eb⟩ : ∃ v, x / 1048576 % 2 = v := ⟨_, rfl⟩
  have lb : b < 2 := by omega
  rw [show x / 2 ^ 20 % 2 ^ 1 = x / 1048576 % 2 by rfl, eb] at hb
  rw [eb]
  have HB := Lib.hid hb
  clear hb eb
  have hc := fun w => rfield_any x 12 8 w hx (by decide)
  obtain ⟨c, ec⟩ : ∃ v, x / 4096 % 256 = v := ⟨_, rfl⟩
  have lc : c < 256 := by omega
  rw [show x / 2 ^ 12 % 2 ^ 8 = x / 4096 % 256 by rfl, ec] at hc
  rw [ec]
  have HC := Lib.hid hc
  clear hc ec
  have hd := fun w => rfield_any x 31 1 w hx (by decide)
  obtain ⟨d, ed⟩ : ∃ v, x / 2147483648 % 2 = v := ⟨_, rfl⟩
  have ld : d < 2 := by omega
  rw [show x / 2 ^ 31 % 2 ^ 1 = x / 2147483648 % 2 by rfl, ed] at hd
  rw [ed]
  have HD := Lib.hid hd
  clear hd ed
  obtain ⟨X, hX⟩ : ∃ v, d * 1048576 + c * 4096 + b * 2048 + a * 2 = v := ⟨_, rfl⟩
  have lX : X < 2097152 := by omega
  rw [hX]
  have hr : 2 * (a : Int) + 2048 * (b : Int) + 4096 * (c : Int) + 1048576 * (d : Int) = (X : Int) := by omega
  have HR := Lib.hid hr
  clear hr hX hx
  unfold operV
  go_enter Tryz.func91, Tryz.ntmps91
  go_wp2_with fail
  refine (HA.out _).mono ?_; rintro e w1 ⟨rfl, rfl⟩
  go_wp2_with fail
  refine (HB.out _).mono ?_; rintro e w2 ⟨rfl, rfl⟩
  go_wp2_with fail
  refine (HC.out _).mono ?_; rintro e w3 ⟨rfl, rfl⟩
  go_wp2_with fail
  refine (HD.out _).mono ?_; rintro e w4 ⟨rfl, rfl⟩
  go_wp2_with fail
  rw [HR.out]
  refine (rbelow21 X _ lX).mono ?_; rintro e w9 ⟨rfl, rfl⟩
  go_wp2_with fail
  go_ret
  exact ⟨rfl, bAlloc (Below.refl _ _) _⟩
theorem rimm_any (s : List UInt8) (k c f3 f7 sh : Int) (x : Nat) (w : World) (hx : x < 4294967296) (hs : sh = 0 ∨ (k = 2 ∧ (sh = 5 ∨ sh = 6))) :
    Calls Tryz.prog 91 #[operV s k c f3 f7 sh, .int .u32 (x : Int)] w fun e w' => e = .returned (.int .i64 (immZ k sh x)) ∧ Below w.heap.size w w' := by
  rcases hs with rfl | ⟨rfl, rfl | rfl⟩
  · refine kinds (P := RImm s c f3 f7 0 x) k (rimm2_0 s c f3 f7 x hx) (rimm3_0 s c f3 f7 x hx) (rimm4_any s c f3 f7 0 x hx) (rimm5_any s c f3 f7 0 x hx) (rimm6_any s c f3 f7 0 x hx) (rimm7_any s c f3 f7 0 x hx) ?_ w
    intro k g2 g3 g4 g5 g6 g7 w
    have hr : immZ k 0 x = 0 := by simp [immZ, g2, g3, g4, g5, g6, g7]
    rw [hr]
    clear hr
    unfold operV
    go_enter Tryz.func91, Tryz.ntmps91
    go_wp2_with fail
    go_ret
    exact ⟨rfl, bAlloc (Below.refl _ _) _⟩
  · exact rimm2_5 s c f3 f7 x hx w
  · exact rimm2_6 s c f3 f7 x hx w
end Go.Proofs.YtdpmihlmfephiaaGreatDoor
