/- IsaP -/
import Derived.Test.YtegoddghfjfibaaGreatDoorZ11
namespace Go.Proofs.YtegoddghfjfibaaGreatDoor.Is
set_option linter.unusedVariables false
set_option linter.unusedSimpArgs false
open Go Go.RowKit

theorem c1_sum (b rd rs1 rs2 u : Nat) (hb : b < 4294967296) (f0 : b / 128 % 32 = 0) (f1 : b / 32768 % 32 = 0) (f2 : b / 1048576 % 32 = 0) (hr : regsB 1 rd rs1 rs2 = true) (hu : u < 4294967296) :
    encN 0 1 b rd rs1 rs2 u = b + rd * 128 + rs1 * 32768 + rs2 * 1048576 ∧ rd < 32 ∧ rs1 < 32 ∧ rs2 < 32 := by
  have h : (rd < 32 ∧ rs1 < 32 ∧ rs2 < 32) := by
    have h := hr
    simp [regsB, hasZ, fit_yes, fit_no] at h
    omega
  clear hr
  obtain ⟨h1, h2, h3⟩ := h
  refine ⟨?_, by omega, by omega, by omega⟩
  have e : ibN 1 u = 0 := by
    rw [ibN_1]
  unfold encN
  rw [e]
  clear e
  simp only [Nat.zero_mul, Nat.or_zero, Nat.zero_or, ← Nat.or_assoc]
  rw [or7 _ _ (by omega) (by omega), or15 _ _ (by omega) (by omega), or20 _ _ (by omega) (by omega)]
theorem c1_back (b : Nat) (hb : b < 4294967296) (hk : kindZ b = 1) (hs : shiftZ b = 0) (f0 : b / 128 % 32 = 0) (f1 : b / 32768 % 32 = 0) (f2 : b / 1048576 % 32 = 0) : Back b := by
  intro rd rs1 rs2 n hr hi
  unfold encB hitB
  rw [hk] at hr hi ⊢
  rw [hs] at hi ⊢
  have hn : n = 0 := by simpa [immB] using hi
  clear hi
  obtain ⟨u, hu⟩ : ∃ u, (n % 4294967296).toNat = u := ⟨_, rfl⟩
  obtain ⟨e, r1, r2, r3⟩ := c1_sum b rd rs1 rs2 u hb f0 f1 f2 hr (by omega)
  clear hr
  rw [hu, e]
  clear e
  rw [show ownK 1 0 = 33525632 by decide, rdN_1, rs1N_1, rs2N_1, beq_iff_eq, immZ_1]
  have hw : b + rd * 128 + rs1 * 32768 + rs2 * 1048576 < 4294967296 := by omega
  rw [clr1 _ hw]
  refine ⟨hw, by omega, by omega, by omega, by omega, ?_⟩
  omega
theorem c1_again (b : Nat) (hb : b < 4294967296) (hk : kindZ b = 1) (hs : shiftZ b = 0) (f0 : b / 128 % 32 = 0) (f1 : b / 32768 % 32 = 0) (f2 : b / 1048576 % 32 = 0) : Again b := by
  intro w hw hh
  unfold encB
  unfold hitB at hh
  rw [hk] at hh ⊢
  rw [hs] at hh ⊢
  rw [show ownK 1 0 = 33525632 by decide, beq_iff_eq, clr1 _ hw] at hh
  rw [rdN_1, rs1N_1, rs2N_1, immZ_1]
  have hr : regsB 1 (((w / 128 % 32) : Nat) : Int) (((w / 32768 % 32) : Nat) : Int) (((w / 1048576 % 32) : Nat) : Int) = true := by
    simp only [regsB, hasZ_1, fit_yes, fit_no, if_true, show ((0 : Nat) : Int) = 0 from rfl]
    simp [fitB]
    omega
  refine ⟨hr, ?_, ?_⟩
  · simp only [immB]
    simp
  · obtain ⟨u, hu⟩ : ∃ u, (((0 : Int)) % 4294967296).toNat = u := ⟨_, rfl⟩
    rw [hu]
    obtain ⟨e, -, -, -⟩ := c1_sum b (w / 128 % 32) (w / 32768 % 32) (w / 1048576 % 32) u hb f0 f1 f2 hr (by omega)
    rw [e]
    clear e
    omega
theorem c2k2_sum (b rd rs1 rs2 u : Nat) (hb : b < 32768) (f0 : b / 128 % 32 = 0) (hr : regsB 2 rd rs1 rs2 = true) (hu : u < 4294967296) :
    encN 0 2 b rd rs1 rs2 u = b + rd * 128 + rs1 * 32768 + u % 4096 * 1048576 ∧ rd < 32 ∧ rs1 < 32 ∧ rs2 = 0 := by
  have h : (rd < 32 ∧ rs1 < 32 ∧ rs2 = 0) := by
    have h := hr
    simp [regsB, hasZ, fit_yes, fit_no] at h
    omega
  clear hr
  obtain ⟨h1, h2, h3⟩ := h
  subst h3
  refine ⟨?_, by omega, by omega, rfl⟩
  have e : ibN 2 u = u % 4096 * 1048576 := by
    rw [ibN_2]
    omega
  unfold encN
  rw [e]
  clear e
  simp only [Nat.zero_mul, Nat.or_zero, Nat.zero_or, ← Nat.or_assoc]
  rw [or7 _ _ (by omega) (by omega), or15 _ _ (by omega) (by omega), or20l _ _ (by omega) (by omega)]
theorem c2k2_back (b : Nat) (hb : b < 32768) (hk : kindZ b = 2) (hs : shiftZ b = 0) (f0 : b / 128 % 32 = 0) : Back b := by
  intro rd rs1 rs2 n hr hi
  unfold encB hitB
  rw [hk] at hr hi ⊢
  rw [hs] at hi ⊢
  have hn : -2048 ≤ n ∧ n < 2048 := by simpa [immB] using hi
  clear hi
  obtain ⟨u, hu⟩ : ∃ u, (n % 4294967296).toNat = u := ⟨_, rfl⟩
  obtain ⟨e, r1, r2, r3⟩ := c2k2_sum b rd rs1 rs2 u hb f0 hr (by omega)
  clear hr
  rw [hu, e]
  clear e
  rw [show ownK 2 0 = 4294938496 by decide, rdN_2, rs1N_2, rs2N_2, beq_iff_eq, immZ_2_0]
  have hw : b + rd * 128 + rs1 * 32768 + u % 4096 * 1048576 < 4294967296 := by omega
  rw [clr2 _ hw]
  refine ⟨hw, by omega, by omega, by omega, by omega, ?_⟩
  unfold sgI
  simp only [show (2 : Nat) ^ (12 - 1) = 2048 by decide, show (2 : Int) ^ 12 = 4096 by decide]
  split <;> omega
theorem c2k2_again (b : Nat) (hb : b < 32768) (hk : kindZ b = 2) (hs : shiftZ b = 0) (f0 : b / 128 % 32 = 0) : Again b := by
  intro w hw hh
  unfold encB
  unfold hitB at hh
  rw [hk] at hh ⊢
  rw [hs] at hh ⊢
  rw [show ownK 2 0 = 4294938496 by decide, beq_iff_eq, clr2 _ hw] at hh
  rw [rdN_2, rs1N_2, rs2N_2, immZ_2_0]
  have hr : regsB 2 (((w / 128 % 32) : Nat) : Int) (((w / 32768 % 32) : Nat) : Int) ((0 : Nat) : Int) = true := by
    simp only [regsB, hasZ_2, fit_yes, fit_no, if_true, show ((0 : Nat) : Int) = 0 from rfl]
    simp [fitB]
    omega
  refine ⟨hr, ?_, ?_⟩
  · show decide (-2048 ≤ (sgI (w / 1048576 % 4096) 12) ∧ (sgI (w / 1048576 % 4096) 12) < 2048) = true
    rw [decide_eq_true_iff]
    unfold sgI
    simp only [show (2 : Nat) ^ (12 - 1) = 2048 by decide, show (2 : Int) ^ 12 = 4096 by decide]
    split <;> omega
  · obtain ⟨u, hu⟩ : ∃ u, ((sgI (w / 1048576 % 4096) 12) % 4294967296).toNat = u := ⟨_, rfl⟩
    rw [hu]
    unfold sgI at hu
    simp only [show (2 : Nat) ^ (12 - 1) = 2048 by decide, show (2 : Int) ^ 12 = 4096 by decide] at hu
    have hu' : u = u := rfl
    obtain ⟨x, hx⟩ : ∃ x, (w / 1048576 % 4096) = x := ⟨_, rfl⟩
    rw [hx] at hu
    have hu2 : u < 4294967296 ∧ u % 4096 = x := by
      have hxl : x < 4096 := by omega
      constructor
      · omega
      · split at hu <;> omega
    clear hu
    obtain ⟨hu2, hu3⟩ := hu2
    obtain ⟨e, -, -, -⟩ := c2k2_sum b (w / 128 % 32) (w / 32768 % 32) 0 u hb f0 hr (by omega)
    rw [e]
    clear e
    omega
theorem c2k3_sum (b rd rs1 rs2 u : Nat) (hb : b < 32768) (f0 : b / 128 % 32 = 0) (hr : regsB 3 rd rs1 rs2 = true) (hu : u < 4294967296) :
    encN 0 3 b rd rs1 rs2 u = b + rd * 128 + rs1 * 32768 + u % 4096 * 1048576 ∧ rd < 32 ∧ rs1 < 32 ∧ rs2 = 0 := by
  have h : (rd < 32 ∧ rs1 < 32 ∧ rs2 = 0) := by
    have h := hr
    simp [regsB, hasZ, fit_yes, fit_no] at h
    omega
  clear hr
  obtain ⟨h1, h2, h3⟩ := h
  subst h3
  refine ⟨?_, by omega, by omega, rfl⟩
  have e : ibN 3 u = u % 4096 * 1048576 := by
    rw [ibN_3]
    omega
  unfold encN
  rw [e]
  clear e
  simp only [Nat.zero_mul, Nat.or_zero, Nat.zero_or, ← Nat.or_assoc]
  rw [or7 _ _ (by omega) (by omega), or15 _ _ (by omega) (by omega), or20l _ _ (by omega) (by omega)]
theorem c2k3_back (b : Nat) (hb : b < 32768) (hk : kindZ b = 3) (hs : shiftZ b = 0) (f0 : b / 128 % 32 = 0) : Back b := by
  intro rd rs1 rs2 n hr hi
  unfold encB hitB
  rw [hk] at hr hi ⊢
  rw [hs] at hi ⊢
  have hn : -2048 ≤ n ∧ n < 2048 := by simpa [immB] using hi
  clear hi
  obtain ⟨u, hu⟩ : ∃ u, (n % 4294967296).toNat = u := ⟨_, rfl⟩
  obtain ⟨e, r1, r2, r3⟩ := c2k3_sum b rd rs1 rs2 u hb f0 hr (by omega)
  clear hr
  rw [hu, e]
  clear e
  rw [show ownK 3 0 = 4294938496 by decide, rdN_3, rs1N_3, rs2N_3, beq_iff_eq, immZ_3_0]
  have hw : b + rd * 128 + rs1 * 32768 + u % 4096 * 1048576 < 4294967296 := by omega
  rw [clr2 _ hw]
  refine ⟨hw, by omega, by omega, by omega, by omega, ?_⟩
  unfold sgI
  simp only [show (2 : Nat) ^ (12 - 1) = 2048 by decide, show (2 : Int) ^ 12 = 4096 by decide]
  split <;> omega
theorem c2k3_again (b : Nat) (hb : b < 32768) (hk : kindZ b = 3) (hs : shiftZ b = 0) (f0 : b / 128 % 32 = 0) : Again b := by
  intro w hw hh
  unfold encB
  unfold hitB at hh
  rw [hk] at hh ⊢
  rw [hs] at hh ⊢
  rw [show ownK 3 0 = 4294938496 by decide, beq_iff_eq, clr2 _ hw] at hh
  rw [rdN_3, rs1N_3, rs2N_3, immZ_3_0]
  have hr : regsB 3 (((w / 128 % 32) : Nat) : Int) (((w / 32768 % 32) : Nat) : Int) ((0 : Nat) : Int) = true := by
    simp only [regsB, hasZ_3, fit_yes, fit_no, if_true, show ((0 : Nat) : Int) = 0 from rfl]
    simp [fitB]
    omega
  refine ⟨hr, ?_, ?_⟩
  · show decide (-2048 ≤ (sgI (w / 1048576 % 4096) 12) ∧ (sgI (w / 1048576 % 4096) 12) < 2048) = true
    rw [decide_eq_true_iff]
    unfold sgI
    simp only [show (2 : Nat) ^ (12 - 1) = 2048 by decide, show (2 : Int) ^ 12 = 4096 by decide]
    split <;> omega
  · obtain ⟨u, hu⟩ : ∃ u, ((sgI (w / 1048576 % 4096) 12) % 4294967296).toNat = u := ⟨_, rfl⟩
    rw [hu]
    unfold sgI at hu
    simp only [show (2 : Nat) ^ (12 - 1) = 2048 by decide, show (2 : Int) ^ 12 = 4096 by decide] at hu
    have hu' : u = u := rfl
    obtain ⟨x, hx⟩ : ∃ x, (w / 1048576 % 4096) = x := ⟨_, rfl⟩
    rw [hx] at hu
    have hu2 : u < 4294967296 ∧ u % 4096 = x := by
      have hxl : x < 4096 := by omega
      constructor
      · omega
      · split at hu <;> omega
    clear hu
    obtain ⟨hu2, hu3⟩ := hu2
    obtain ⟨e, -, -, -⟩ := c2k3_sum b (w / 128 % 32) (w / 32768 % 32) 0 u hb f0 hr (by omega)
    rw [e]
    clear e
    omega
theorem c3_sum (b rd rs1 rs2 u : Nat) (hb : b < 4294967296) (f0 : b / 128 % 32 = 0) (f1 : b / 32768 % 32 = 0) (f2 : b / 1048576 % 64 = 0) (hr : regsB 2 rd rs1 rs2 = true) (hu : u < 4294967296) (hu2 : u < 64) :
    encN 0 2 b rd rs1 rs2 u = b + rd * 128 + rs1 * 32768 + u % 4096 * 1048576 ∧ rd < 32 ∧ rs1 < 32 ∧ rs2 = 0 := by
  have h : (rd < 32 ∧ rs1 < 32 ∧ rs2 = 0) := by
    have h := hr
    simp [regsB, hasZ, fit_yes, fit_no] at h
    omega
  clear hr
  obtain ⟨h1, h2, h3⟩ := h
  subst h3
  refine ⟨?_, by omega, by omega, rfl⟩
  have e : ibN 2 u = u % 4096 * 1048576 := by
    rw [ibN_2]
    omega
  unfold encN
  rw [e]
  clear e
  simp only [Nat.zero_mul, Nat.or_zero, Nat.zero_or, ← Nat.or_assoc]
  rw [or7 _ _ (by omega) (by omega), or15 _ _ (by omega) (by omega), or20s _ _ (by omega) (by omega)]
theorem c3_back (b : Nat) (hb : b < 4294967296) (hk : kindZ b = 2) (hs : shiftZ b = 6) (f0 : b / 128 % 32 = 0) (f1 : b / 32768 % 32 = 0) (f2 : b / 1048576 % 64 = 0) : Back b := by
  intro rd rs1 rs2 n hr hi
  unfold encB hitB
  rw [hk] at hr hi ⊢
  rw [hs] at hi ⊢
  have hn : 0 ≤ n ∧ n < 64 := by simpa [immB] using hi
  clear hi
  obtain ⟨u, hu⟩ : ∃ u, (n % 4294967296).toNat = u := ⟨_, rfl⟩
  obtain ⟨e, r1, r2, r3⟩ := c3_sum b rd rs1 rs2 u hb f0 f1 f2 hr (by omega) (by omega)
  clear hr
  rw [hu, e]
  clear e
  rw [show ownK 2 6 = 67080064 by decide, rdN_2, rs1N_2, rs2N_2, beq_iff_eq, immZ_2_6]
  have hw : b + rd * 128 + rs1 * 32768 + u % 4096 * 1048576 < 4294967296 := by omega
  rw [clr6 _ hw]
  refine ⟨hw, by omega, by omega, by omega, by omega, ?_⟩
  omega
theorem c3_again (b : Nat) (hb : b < 4294967296) (hk : kindZ b = 2) (hs : shiftZ b = 6) (f0 : b / 128 % 32 = 0) (f1 : b / 32768 % 32 = 0) (f2 : b / 1048576 % 64 = 0) : Again b := by
  intro w hw hh
  unfold encB
  unfold hitB at hh
  rw [hk] at hh ⊢
  rw [hs] at hh ⊢
  rw [show ownK 2 6 = 67080064 by decide, beq_iff_eq, clr6 _ hw] at hh
  rw [rdN_2, rs1N_2, rs2N_2, immZ_2_6]
  have hr : regsB 2 (((w / 128 % 32) : Nat) : Int) (((w / 32768 % 32) : Nat) : Int) ((0 : Nat) : Int) = true := by
    simp only [regsB, hasZ_2, fit_yes, fit_no, if_true, show ((0 : Nat) : Int) = 0 from rfl]
    simp [fitB]
    omega
  refine ⟨hr, ?_, ?_⟩
  · show decide (0 ≤ (((w / 1048576 % 64 : Nat) : Int)) ∧ (((w / 1048576 % 64 : Nat) : Int)) < 64) = true
    rw [decide_eq_true_iff]
    omega
  · obtain ⟨u, hu⟩ : ∃ u, ((((w / 1048576 % 64 : Nat) : Int)) % 4294967296).toNat = u := ⟨_, rfl⟩
    rw [hu]
    obtain ⟨e, -, -, -⟩ := c3_sum b (w / 128 % 32) (w / 32768 % 32) 0 u hb f0 f1 f2 hr (by omega) (by omega)
    rw [e]
    clear e
    omega
theorem c4_sum (b rd rs1 rs2 u : Nat) (hb : b < 4294967296) (f0 : b / 128 % 32 = 0) (f1 : b / 32768 % 32 = 0) (f2 : b / 1048576 % 32 = 0) (hr : regsB 2 rd rs1 rs2 = true) (hu : u < 4294967296) (hu2 : u < 32) :
    encN 0 2 b rd rs1 rs2 u = b + rd * 128 + rs1 * 32768 + u % 4096 * 1048576 ∧ rd < 32 ∧ rs1 < 32 ∧ rs2 = 0 := by
  have h : (rd < 32 ∧ rs1 < 32 ∧ rs2 = 0) := by
    have h := hr
    simp [regsB, hasZ, fit_yes, fit_no] at h
    omega
  clear hr
  obtain ⟨h1, h2, h3⟩ := h
  subst h3
  refine ⟨?_, by omega, by omega, rfl⟩
  have e : ibN 2 u = u % 4096 * 1048576 := by
    rw [ibN_2]
    omega
  unfold encN
  rw [e]
  clear e
  simp only [Nat.zero_mul, Nat.or_zero, Nat.zero_or, ← Nat.or_assoc]
  rw [or7 _ _ (by omega) (by omega), or15 _ _ (by omega) (by omega), or20 _ _ (by omega) (by omega)]
theorem c4_back (b : Nat) (hb : b < 4294967296) (hk : kindZ b = 2) (hs : shiftZ b = 5) (f0 : b / 128 % 32 = 0) (f1 : b / 32768 % 32 = 0) (f2 : b / 1048576 % 32 = 0) : Back b := by
  intro rd rs1 rs2 n hr hi
  unfold encB hitB
  rw [hk] at hr hi ⊢
  rw [hs] at hi ⊢
  have hn : 0 ≤ n ∧ n < 32 := by simpa [immB] using hi
  clear hi
  obtain ⟨u, hu⟩ : ∃ u, (n % 4294967296).toNat = u := ⟨_, rfl⟩
  obtain ⟨e, r1, r2, r3⟩ := c4_sum b rd rs1 rs2 u hb f0 f1 f2 hr (by omega) (by omega)
  clear hr
  rw [hu, e]
  clear e
  rw [show ownK 2 5 = 33525632 by decide, rdN_2, rs1N_2, rs2N_2, beq_iff_eq, immZ_2_5]
  have hw : b + rd * 128 + rs1 * 32768 + u % 4096 * 1048576 < 4294967296 := by omega
  rw [clr1 _ hw]
  refine ⟨hw, by omega, by omega, by omega, by omega, ?_⟩
  omega
theorem c4_again (b : Nat) (hb : b < 4294967296) (hk : kindZ b = 2) (hs : shiftZ b = 5) (f0 : b / 128 % 32 = 0) (f1 : b / 32768 % 32 = 0) (f2 : b / 1048576 % 32 = 0) : Again b := by
  intro w hw hh
  unfold encB
  unfold hitB at hh
  rw [hk] at hh ⊢
  rw [hs] at hh ⊢
  rw [show ownK 2 5 = 33525632 by decide, beq_iff_eq, clr1 _ hw] at hh
  rw [rdN_2, rs1N_2, rs2N_2, immZ_2_5]
  have hr : regsB 2 (((w / 128 % 32) : Nat) : Int) (((w / 32768 % 32) : Nat) : Int) ((0 : Nat) : Int) = true := by
    simp only [regsB, hasZ_2, fit_yes, fit_no, if_true, show ((0 : Nat) : Int) = 0 from rfl]
    simp [fitB]
    omega
  refine ⟨hr, ?_, ?_⟩
  · show decide (0 ≤ (((w / 1048576 % 32 : Nat) : Int)) ∧ (((w / 1048576 % 32 : Nat) : Int)) < 32) = true
    rw [decide_eq_true_iff]
    omega
  · obtain ⟨u, hu⟩ : ∃ u, ((((w / 1048576 % 32 : Nat) : Int)) % 4294967296).toNat = u := ⟨_, rfl⟩
    rw [hu]
    obtain ⟨e, -, -, -⟩ := c4_sum b (w / 128 % 32) (w / 32768 % 32) 0 u hb f0 f1 f2 hr (by omega) (by omega)
    rw [e]
    clear e
    omega
theorem c5_sum (b rd rs1 rs2 u : Nat) (hb : b < 32768) (f0 : b / 128 % 32 = 0) (hr : regsB 4 rd rs1 rs2 = true) (hu : u < 4294967296) :
    encN 0 4 b rd rs1 rs2 u = b + rs1 * 32768 + rs2 * 1048576 + u / 32 % 128 * 33554432 + u % 32 * 128 ∧ rd = 0 ∧ rs1 < 32 ∧ rs2 < 32 := by
  have h : (rd = 0 ∧ rs1 < 32 ∧ rs2 < 32) := by
    have h := hr
    simp [regsB, hasZ, fit_yes, fit_no] at h
    omega
  clear hr
  obtain ⟨h1, h2, h3⟩ := h
  subst h1
  refine ⟨?_, rfl, by omega, by omega⟩
  have e : ibN 4 u = u / 32 % 128 * 33554432 ||| u % 32 * 128 := by
    rw [ibN_4]
  unfold encN
  rw [e]
  clear e
  simp only [Nat.zero_mul, Nat.or_zero, Nat.zero_or, ← Nat.or_assoc]
  rw [or15 _ _ (by omega) (by omega), or20 _ _ (by omega) (by omega), or25 _ _ (by omega) (by omega), or7 _ _ (by omega) (by omega)]
theorem c5_back (b : Nat) (hb : b < 32768) (hk : kindZ b = 4) (hs : shiftZ b = 0) (f0 : b / 128 % 32 = 0) : Back b := by
  intro rd rs1 rs2 n hr hi
  unfold encB hitB
  rw [hk] at hr hi ⊢
  rw [hs] at hi ⊢
  have hn : -2048 ≤ n ∧ n < 2048 := by simpa [immB] using hi
  clear hi hk hs
  obtain ⟨u, hu⟩ : ∃ u, (n % 4294967296).toNat = u := ⟨_, rfl⟩
  obtain ⟨e, r1, r2, r3⟩ := c5_sum b rd rs1 rs2 u hb f0 hr (by omega)
  clear hr
  rw [hu, e]
  clear e
  rw [show ownK 4 0 = 4294938496 by decide, rdN_4, rs1N_4, rs2N_4, beq_iff_eq, immZ_4]
  obtain ⟨p, hp⟩ : ∃ v, u / 32 % 128 = v := ⟨_, rfl⟩
  have lp : p < 128 := by omega
  obtain ⟨q, hq⟩ : ∃ v, u % 32 = v := ⟨_, rfl⟩
  have lq : q < 32 := by omega
  have hX : p * 32 + q = u % 4096 := by omega
  have hsg : sgI (p * 32 + q) 12 = n := by
    rw [hX]
    unfold sgI
    simp only [show (2 : Nat) ^ (12 - 1) = 2048 by decide, show (2 : Int) ^ 12 = 4096 by decide]
    split <;> omega
  rw [hp, hq]
  clear hX hu hn hp hq
  obtain ⟨b0, b1, l0, l1, hbb⟩ : ∃ b0 b1, b0 < 128 ∧ b1 < 8 ∧ b = b0 + b1 * 4096 := ⟨b % 128, b / 4096, by omega, by omega, by omega⟩
  subst hbb
  clear hb f0
  obtain ⟨E, hE⟩ : ∃ E, b0 + b1 * 4096 + rs1 * 32768 + rs2 * 1048576 + p * 33554432 + q * 128 = E := ⟨_, rfl⟩
  rw [hE]
  have hlt : E < 4294967296 := by omega
  have gp : E / 33554432 % 128 = p := by omega
  have gq : E / 128 % 32 = q := by omega
  have grs1 : E / 32768 % 32 = rs1 := by omega
  have grs2 : E / 1048576 % 32 = rs2 := by omega
  have gl : E % 32768 - q * 128 = b0 + b1 * 4096 := by omega
  rw [clr2 _ hlt]
  refine ⟨hlt, by rw [gq]; exact gl, r1.symm, grs1, grs2, by rw [gp, gq]; exact hsg⟩
theorem c5_again (b : Nat) (hb : b < 32768) (hk : kindZ b = 4) (hs : shiftZ b = 0) (f0 : b / 128 % 32 = 0) : Again b := by
  intro w hw hh
  unfold encB
  unfold hitB at hh
  rw [hk] at hh ⊢
  rw [hs] at hh ⊢
  clear hk hs
  rw [show ownK 4 0 = 4294938496 by decide, beq_iff_eq, clr2 _ hw] at hh
  rw [rdN_4, rs1N_4, rs2N_4, immZ_4]
  have hr : regsB 4 ((0 : Nat) : Int) (((w / 32768 % 32) : Nat) : Int) (((w / 1048576 % 32) : Nat) : Int) = true := by
    simp only [regsB, hasZ_4, fit_yes, fit_no, if_true, show ((0 : Nat) : Int) = 0 from rfl]
    simp [fitB]
    omega
  obtain ⟨P, hP⟩ : ∃ v, w / 33554432 % 128 = v := ⟨_, rfl⟩
  have lP : P < 128 := by omega
  obtain ⟨Q, hQ⟩ : ∃ v, w / 128 % 32 = v := ⟨_, rfl⟩
  have lQ : Q < 32 := by omega
  obtain ⟨rs1, hrs1⟩ : ∃ v, w / 32768 % 32 = v := ⟨_, rfl⟩
  have lrs1 : rs1 < 32 := by omega
  obtain ⟨rs2, hrs2⟩ : ∃ v, w / 1048576 % 32 = v := ⟨_, rfl⟩
  have lrs2 : rs2 < 32 := by omega
  have hw2 : w = b + rs1 * 32768 + rs2 * 1048576 + P * 33554432 + Q * 128 := by omega
  rw [hP, hQ, hrs1, hrs2]
  rw [hrs1, hrs2] at hr
  obtain ⟨X, hX⟩ : ∃ X, P * 32 + Q = X := ⟨_, rfl⟩
  have lX : X < 4096 := by
    clear hr hh hw2 hw hP hQ hrs1 hrs2
    omega
  rw [hX]
  refine ⟨hr, ?_, ?_⟩
  · show decide (-2048 ≤ sgI X 12 ∧ sgI X 12 < 2048) = true
    rw [decide_eq_true_iff]
    unfold sgI
    simp only [show (2 : Nat) ^ (12 - 1) = 2048 by decide, show (2 : Int) ^ 12 = 4096 by decide]
    clear hr hh hw2 hw hP hQ hrs1 hrs2
    split <;> omega
  · obtain ⟨u, hu⟩ : ∃ u, (sgI X 12 % 4294967296).toNat = u := ⟨_, rfl⟩
    rw [hu]
    unfold sgI at hu
    simp only [show (2 : Nat) ^ (12 - 1) = 2048 by decide, show (2 : Int) ^ 12 = 4096 by decide] at hu
    have hu2 : u < 4294967296 ∧ u % 4096 = X := by
      clear hr hh hw2 hw hP hQ hrs1 hrs2
      constructor
      · omega
      · split at hu <;> omega
    clear hu
    obtain ⟨hu2, hu3⟩ := hu2
    obtain ⟨e, -, -, -⟩ := c5_sum b 0 rs1 rs2 u hb f0 hr hu2
    rw [e]
    clear e hr hh hP hQ hrs1 hrs2
    have zp : u / 32 % 128 = P := by clear hw2 hw; omega
    have zq : u % 32 = Q := by clear hw2 hw; omega
    rw [zp, zq]
    exact hw2.symm
theorem c6_sum (b rd rs1 rs2 u : Nat) (hb : b < 32768) (f0 : b / 128 % 32 = 0) (hr : regsB 5 rd rs1 rs2 = true) (hu : u < 4294967296) :
    encN 0 5 b rd rs1 rs2 u = b + rs1 * 32768 + rs2 * 1048576 + u / 4096 % 2 * 2147483648 + u / 32 % 64 * 33554432 + u / 2 % 16 * 256 + u / 2048 % 2 * 128 ∧ rd = 0 ∧ rs1 < 32 ∧ rs2 < 32 := by
  have h : (rd = 0 ∧ rs1 < 32 ∧ rs2 < 32) := by
    have h := hr
    simp [regsB, hasZ, fit_yes, fit_no] at h
    omega
  clear hr
  obtain ⟨h1, h2, h3⟩ := h
  subst h1
  refine ⟨?_, rfl, by omega, by omega⟩
  have e : ibN 5 u = u / 4096 % 2 * 2147483648 ||| u / 32 % 64 * 33554432 ||| u / 2 % 16 * 256 ||| u / 2048 % 2 * 128 := by
    rw [ibN_5]
  unfold encN
  rw [e]
  clear e
  simp only [Nat.zero_mul, Nat.or_zero, Nat.zero_or, ← Nat.or_assoc]
  rw [or15 _ _ (by omega) (by omega), or20 _ _ (by omega) (by omega), or31 _ _ (by omega) (by omega), or25s _ _ (by omega) (by omega), or8 _ _ (by omega) (by omega), or71 _ _ (by omega) (by omega)]
theorem c6_back (b : Nat) (hb : b < 32768) (hk : kindZ b = 5) (hs : shiftZ b = 0) (f0 : b / 128 % 32 = 0) : Back b := by
  intro rd rs1 rs2 n hr hi
  unfold encB hitB
  rw [hk] at hr hi ⊢
  rw [hs] at hi ⊢
  have hn : n % 2 = 0 ∧ -4096 ≤ n ∧ n < 4096 := by simpa [immB] using hi
  clear hi hk hs
  obtain ⟨u, hu⟩ : ∃ u, (n % 4294967296).toNat = u := ⟨_, rfl⟩
  obtain ⟨e, r1, r2, r3⟩ := c6_sum b rd rs1 rs2 u hb f0 hr (by omega)
  clear hr
  rw [hu, e]
  clear e
  rw [show ownK 5 0 = 4294938496 by decide, rdN_5, rs1N_5, rs2N_5, beq_iff_eq, immZ_5]
  obtain ⟨p, hp⟩ : ∃ v, u / 4096 % 2 = v := ⟨_, rfl⟩
  have lp : p < 2 := by omega
  obtain ⟨q, hq⟩ : ∃ v, u / 32 % 64 = v := ⟨_, rfl⟩
  have lq : q < 64 := by omega
  obtain ⟨r, hr⟩ : ∃ v, u / 2 % 16 = v := ⟨_, rfl⟩
  have lr : r < 16 := by omega
  obtain ⟨t, ht⟩ : ∃ v, u / 2048 % 2 = v := ⟨_, rfl⟩
  have lt : t < 2 := by omega
  have hX : p * 4096 + t * 2048 + q * 32 + r * 2 = u % 8192 := by omega
  have hsg : sgI (p * 4096 + t * 2048 + q * 32 + r * 2) 13 = n := by
    rw [hX]
    unfold sgI
    simp only [show (2 : Nat) ^ (13 - 1) = 4096 by decide, show (2 : Int) ^ 13 = 8192 by decide]
    split <;> omega
  rw [hp, hq, hr, ht]
  clear hX hu hn hp hq hr ht
  obtain ⟨b0, b1, l0, l1, hbb⟩ : ∃ b0 b1, b0 < 128 ∧ b1 < 8 ∧ b = b0 + b1 * 4096 := ⟨b % 128, b / 4096, by omega, by omega, by omega⟩
  subst hbb
  clear hb f0
  obtain ⟨E, hE⟩ : ∃ E, b0 + b1 * 4096 + rs1 * 32768 + rs2 * 1048576 + p * 2147483648 + q * 33554432 + r * 256 + t * 128 = E := ⟨_, rfl⟩
  rw [hE]
  have hlt : E < 4294967296 := by omega
  have gp : E / 2147483648 % 2 = p := by omega
  have gq : E / 33554432 % 64 = q := by omega
  have grt : E / 128 % 32 = t + r * 2 := by omega
  have gr : E / 256 % 16 = r := by omega
  have gt : E / 128 % 2 = t := by omega
  have grs1 : E / 32768 % 32 = rs1 := by omega
  have grs2 : E / 1048576 % 32 = rs2 := by omega
  have gl : E % 32768 - (t + r * 2) * 128 = b0 + b1 * 4096 := by omega
  rw [clr2 _ hlt]
  refine ⟨hlt, by rw [grt]; exact gl, r1.symm, grs1, grs2, by rw [gp, gt, gq, gr]; exact hsg⟩
theorem c6_again (b : Nat) (hb : b < 32768) (hk : kindZ b = 5) (hs : shiftZ b = 0) (f0 : b / 128 % 32 = 0) : Again b := by
  intro w hw hh
  unfold encB
  unfold hitB at hh
  rw [hk] at hh ⊢
  rw [hs] at hh ⊢
  clear hk hs
  rw [show ownK 5 0 = 4294938496 by decide, beq_iff_eq, clr2 _ hw] at hh
  rw [rdN_5, rs1N_5, rs2N_5, immZ_5]
  have hr : regsB 5 ((0 : Nat) : Int) (((w / 32768 % 32) : Nat) : Int) (((w / 1048576 % 32) : Nat) : Int) = true := by
    simp only [regsB, hasZ_5, fit_yes, fit_no, if_true, show ((0 : Nat) : Int) = 0 from rfl]
    simp [fitB]
    omega
  obtain ⟨P, hP⟩ : ∃ v, w / 2147483648 % 2 = v := ⟨_, rfl⟩
  have lP : P < 2 := by omega
  obtain ⟨T, hT⟩ : ∃ v, w / 128 % 2 = v := ⟨_, rfl⟩
  have lT : T < 2 := by omega
  obtain ⟨Q, hQ⟩ : ∃ v, w / 33554432 % 64 = v := ⟨_, rfl⟩
  have lQ : Q < 64 := by omega
  obtain ⟨R, hR⟩ : ∃ v, w / 256 % 16 = v := ⟨_, rfl⟩
  have lR : R < 16 := by omega
  obtain ⟨rs1, hrs1⟩ : ∃ v, w / 32768 % 32 = v := ⟨_, rfl⟩
  have lrs1 : rs1 < 32 := by omega
  obtain ⟨rs2, hrs2⟩ : ∃ v, w / 1048576 % 32 = v := ⟨_, rfl⟩
  have lrs2 : rs2 < 32 := by omega
  have hQ5 : w / 128 % 32 = T + R * 2 := by clear hh hP hQ; omega
  have hP7 : w / 33554432 % 128 = Q + P * 64 := by clear hh hR hT hQ5; omega
  have hw2 : w = b + rs1 * 32768 + rs2 * 1048576 + P * 2147483648 + Q * 33554432 + R * 256 + T * 128 := by
    rw [hQ5] at hh
    clear hP hQ hR hT f0 hr
    have y1 : (T + R * 2) * 128 ≤ w % 32768 := by rw [← hQ5]; clear hQ5 hP7 hrs1 hrs2 hh; omega
    have y2 : w = w % 32768 + rs1 * 32768 + rs2 * 1048576 + (Q + P * 64) * 33554432 := by rw [← hP7, ← hrs1, ← hrs2]; clear hQ5 hP7 hrs1 hrs2 hh y1; omega
    clear hQ5 hP7 hrs1 hrs2
    generalize w % 32768 = y at *
    omega
  rw [hP, hT, hQ, hR, hrs1, hrs2]
  rw [hrs1, hrs2] at hr
  obtain ⟨X, hX⟩ : ∃ X, P * 4096 + T * 2048 + Q * 32 + R * 2 = X := ⟨_, rfl⟩
  have lX : X < 8192 := by
    clear hr hh hw2 hw hP hT hQ hR hrs1 hrs2 hQ5 hP7
    omega
  rw [hX]
  refine ⟨hr, ?_, ?_⟩
  · show decide (sgI X 13 % 2 = 0 ∧ -4096 ≤ sgI X 13 ∧ sgI X 13 < 4096) = true
    rw [decide_eq_true_iff]
    unfold sgI
    simp only [show (2 : Nat) ^ (13 - 1) = 4096 by decide, show (2 : Int) ^ 13 = 8192 by decide]
    clear hr hh hw2 hw hP hT hQ hR hrs1 hrs2 hQ5 hP7
    split <;> omega
  · obtain ⟨u, hu⟩ : ∃ u, (sgI X 13 % 4294967296).toNat = u := ⟨_, rfl⟩
    rw [hu]
    unfold sgI at hu
    simp only [show (2 : Nat) ^ (13 - 1) = 4096 by decide, show (2 : Int) ^ 13 = 8192 by decide] at hu
    have hu2 : u < 4294967296 ∧ u % 8192 = X := by
      clear hr hh hw2 hw hP hT hQ hR hrs1 hrs2 hQ5 hP7
      constructor
      · omega
      · split at hu <;> omega
    clear hu
    obtain ⟨hu2, hu3⟩ := hu2
    obtain ⟨e, -, -, -⟩ := c6_sum b 0 rs1 rs2 u hb f0 hr hu2
    rw [e]
    clear e hr hh hP hT hQ hR hrs1 hrs2 hQ5 hP7
    have zp : u / 4096 % 2 = P := by clear hw2 hw; omega
    have zq : u / 32 % 64 = Q := by clear hw2 hw; omega
    have zr : u / 2 % 16 = R := by clear hw2 hw; omega
    have zt : u / 2048 % 2 = T := by clear hw2 hw; omega
    rw [zp, zq, zr, zt]
    exact hw2.symm
theorem c7_sum (b rd rs1 rs2 u : Nat) (hb : b < 128)  (hr : regsB 6 rd rs1 rs2 = true) (hu : u < 4294967296) (hu2 : u % 4096 = 0) :
    encN 0 6 b rd rs1 rs2 u = b + rd * 128 + u / 4096 * 4096 ∧ rd < 32 ∧ rs1 = 0 ∧ rs2 = 0 := by
  have h : (rd < 32 ∧ rs1 = 0 ∧ rs2 = 0) := by
    have h := hr
    simp [regsB, hasZ, fit_yes, fit_no] at h
    omega
  clear hr
  obtain ⟨h1, h2, h3⟩ := h
  subst h2
  subst h3
  refine ⟨?_, by omega, rfl, rfl⟩
  have e : ibN 6 u = u / 4096 * 4096 := by
    rw [ibN_6]
    omega
  unfold encN
  rw [e]
  clear e
  simp only [Nat.zero_mul, Nat.or_zero, Nat.zero_or, ← Nat.or_assoc]
  rw [or7 _ _ (by omega) (by omega), or12 _ _ (by omega) (by omega)]
theorem c7_back (b : Nat) (hb : b < 128) (hk : kindZ b = 6) (hs : shiftZ b = 0)  : Back b := by
  intro rd rs1 rs2 n hr hi
  unfold encB hitB
  rw [hk] at hr hi ⊢
  rw [hs] at hi ⊢
  have hn : n % 4096 = 0 ∧ -2147483648 ≤ n ∧ n < 2147483648 := by simpa [immB] using hi
  clear hi
  obtain ⟨u, hu⟩ : ∃ u, (n % 4294967296).toNat = u := ⟨_, rfl⟩
  obtain ⟨e, r1, r2, r3⟩ := c7_sum b rd rs1 rs2 u hb  hr (by omega) (by omega)
  clear hr
  rw [hu, e]
  clear e
  rw [show ownK 6 0 = 4294967168 by decide, rdN_6, rs1N_6, rs2N_6, beq_iff_eq, immZ_6]
  have hw : b + rd * 128 + u / 4096 * 4096 < 4294967296 := by omega
  rw [not7l _ hw]
  refine ⟨hw, by omega, by omega, by omega, by omega, ?_⟩
  unfold sgI
  simp only [show (2 : Nat) ^ (32 - 1) = 2147483648 by decide, show (2 : Int) ^ 32 = 4294967296 by decide]
  split <;> omega
theorem c7_again (b : Nat) (hb : b < 128) (hk : kindZ b = 6) (hs : shiftZ b = 0)  : Again b := by
  intro w hw hh
  unfold encB
  unfold hitB at hh
  rw [hk] at hh ⊢
  rw [hs] at hh ⊢
  rw [show ownK 6 0 = 4294967168 by decide, beq_iff_eq, not7l _ hw] at hh
  rw [rdN_6, rs1N_6, rs2N_6, immZ_6]
  have hr : regsB 6 (((w / 128 % 32) : Nat) : Int) ((0 : Nat) : Int) ((0 : Nat) : Int) = true := by
    simp only [regsB, hasZ_6, fit_yes, fit_no, if_true, show ((0 : Nat) : Int) = 0 from rfl]
    simp [fitB]
    omega
  refine ⟨hr, ?_, ?_⟩
  · show decide ((sgI (w / 4096 % 1048576 * 4096) 32) % 4096 = 0 ∧ -2147483648 ≤ (sgI (w / 4096 % 1048576 * 4096) 32) ∧ (sgI (w / 4096 % 1048576 * 4096) 32) < 2147483648) = true
    rw [decide_eq_true_iff]
    unfold sgI
    simp only [show (2 : Nat) ^ (32 - 1) = 2147483648 by decide, show (2 : Int) ^ 32 = 4294967296 by decide]
    split <;> omega
  · obtain ⟨u, hu⟩ : ∃ u, ((sgI (w / 4096 % 1048576 * 4096) 32) % 4294967296).toNat = u := ⟨_, rfl⟩
    rw [hu]
    unfold sgI at hu
    simp only [show (2 : Nat) ^ (32 - 1) = 2147483648 by decide, show (2 : Int) ^ 32 = 4294967296 by decide] at hu
    have hu' : u = u := rfl
    obtain ⟨x, hx⟩ : ∃ x, (w / 4096 % 1048576 * 4096) = x := ⟨_, rfl⟩
    rw [hx] at hu
    have hu2 : u < 4294967296 ∧ u % 4294967296 = x := by
      have hxl : x < 4294967296 := by omega
      constructor
      · omega
      · split at hu <;> omega
    clear hu
    obtain ⟨hu2, hu3⟩ := hu2
    obtain ⟨e, -, -, -⟩ := c7_sum b (w / 128 % 32) 0 0 u hb  hr (by omega) (by omega)
    rw [e]
    clear e
    omega
theorem c8_sum (b rd rs1 rs2 u : Nat) (hb : b < 128)  (hr : regsB 7 rd rs1 rs2 = true) (hu : u < 4294967296) :
    encN 0 7 b rd rs1 rs2 u = b + rd * 128 + u / 1048576 % 2 * 2147483648 + u / 2 % 1024 * 2097152 + u / 2048 % 2 * 1048576 + u / 4096 % 256 * 4096 ∧ rd < 32 ∧ rs1 = 0 ∧ rs2 = 0 := by
  have h : (rd < 32 ∧ rs1 = 0 ∧ rs2 = 0) := by
    have h := hr
    simp [regsB, hasZ, fit_yes, fit_no] at h
    omega
  clear hr
  obtain ⟨h1, h2, h3⟩ := h
  subst h2
  subst h3
  refine ⟨?_, by omega, rfl, rfl⟩
  have e : ibN 7 u = u / 1048576 % 2 * 2147483648 ||| u / 2 % 1024 * 2097152 ||| u / 2048 % 2 * 1048576 ||| u / 4096 % 256 * 4096 := by
    rw [ibN_7]
  unfold encN
  rw [e]
  clear e
  simp only [Nat.zero_mul, Nat.or_zero, Nat.zero_or, ← Nat.or_assoc]
  rw [or7 _ _ (by omega) (by omega), or31 _ _ (by omega) (by omega), or21 _ _ (by omega) (by omega), or201 _ _ (by omega) (by omega), or12s _ _ (by omega) (by omega)]
theorem c8_back (b : Nat) (hb : b < 128) (hk : kindZ b = 7) (hs : shiftZ b = 0)  : Back b := by
  intro rd rs1 rs2 n hr hi
  unfold encB hitB
  rw [hk] at hr hi ⊢
  rw [hs] at hi ⊢
  have hn : n % 2 = 0 ∧ -1048576 ≤ n ∧ n < 1048576 := by simpa [immB] using hi
  clear hi hk hs
  obtain ⟨u, hu⟩ : ∃ u, (n % 4294967296).toNat = u := ⟨_, rfl⟩
  obtain ⟨e, r1, r2, r3⟩ := c8_sum b rd rs1 rs2 u hb  hr (by omega)
  clear hr
  rw [hu, e]
  clear e
  rw [show ownK 7 0 = 4294967168 by decide, rdN_7, rs1N_7, rs2N_7, beq_iff_eq, immZ_7]
  obtain ⟨p, hp⟩ : ∃ v, u / 1048576 % 2 = v := ⟨_, rfl⟩
  have lp : p < 2 := by omega
  obtain ⟨q, hq⟩ : ∃ v, u / 2 % 1024 = v := ⟨_, rfl⟩
  have lq : q < 1024 := by omega
  obtain ⟨r, hr⟩ : ∃ v, u / 2048 % 2 = v := ⟨_, rfl⟩
  have lr : r < 2 := by omega
  obtain ⟨t, ht⟩ : ∃ v, u / 4096 % 256 = v := ⟨_, rfl⟩
  have lt : t < 256 := by omega
  have hX : p * 1048576 + t * 4096 + r * 2048 + q * 2 = u % 2097152 := by omega
  have hsg : sgI (p * 1048576 + t * 4096 + r * 2048 + q * 2) 21 = n := by
    rw [hX]
    unfold sgI
    simp only [show (2 : Nat) ^ (21 - 1) = 1048576 by decide, show (2 : Int) ^ 21 = 2097152 by decide]
    split <;> omega
  rw [hp, hq, hr, ht]
  clear hX hu hn hp hq hr ht
  obtain ⟨E, hE⟩ : ∃ E, b + rd * 128 + p * 2147483648 + q * 2097152 + r * 1048576 + t * 4096 = E := ⟨_, rfl⟩
  rw [hE]
  have hlt : E < 4294967296 := by omega
  have gp : E / 2147483648 % 2 = p := by omega
  have gq : E / 2097152 % 1024 = q := by omega
  have gr : E / 1048576 % 2 = r := by omega
  have gt : E / 4096 % 256 = t := by omega
  have grd : E / 128 % 32 = rd := by omega
  have gl : E - E / 128 % 33554432 * 128 = b := by omega
  rw [not7l _ hlt]
  refine ⟨hlt, gl, grd, r2.symm, r3.symm, by rw [gp, gt, gr, gq]; exact hsg⟩
theorem c8_again (b : Nat) (hb : b < 128) (hk : kindZ b = 7) (hs : shiftZ b = 0)  : Again b := by
  intro w hw hh
  unfold encB
  unfold hitB at hh
  rw [hk] at hh ⊢
  rw [hs] at hh ⊢
  clear hk hs
  rw [show ownK 7 0 = 4294967168 by decide, beq_iff_eq, not7l _ hw] at hh
  rw [rdN_7, rs1N_7, rs2N_7, immZ_7]
  have hr : regsB 7 (((w / 128 % 32) : Nat) : Int) ((0 : Nat) : Int) ((0 : Nat) : Int) = true := by
    simp only [regsB, hasZ_7, fit_yes, fit_no, if_true, show ((0 : Nat) : Int) = 0 from rfl]
    simp [fitB]
    omega
  obtain ⟨P, hP⟩ : ∃ v, w / 2147483648 % 2 = v := ⟨_, rfl⟩
  have lP : P < 2 := by omega
  obtain ⟨T, hT⟩ : ∃ v, w / 4096 % 256 = v := ⟨_, rfl⟩
  have lT : T < 256 := by omega
  obtain ⟨R, hR⟩ : ∃ v, w / 1048576 % 2 = v := ⟨_, rfl⟩
  have lR : R < 2 := by omega
  obtain ⟨Q, hQ⟩ : ∃ v, w / 2097152 % 1024 = v := ⟨_, rfl⟩
  have lQ : Q < 1024 := by omega
  obtain ⟨rd, hrd⟩ : ∃ v, w / 128 % 32 = v := ⟨_, rfl⟩
  have lrd : rd < 32 := by omega
  have hw2 : w = b + rd * 128 + P * 2147483648 + Q * 2097152 + R * 1048576 + T * 4096 := by omega
  rw [hP, hT, hR, hQ, hrd]
  rw [hrd] at hr
  obtain ⟨X, hX⟩ : ∃ X, P * 1048576 + T * 4096 + R * 2048 + Q * 2 = X := ⟨_, rfl⟩
  have lX : X < 2097152 := by
    clear hr hh hw2 hw hP hT hR hQ hrd
    omega
  rw [hX]
  refine ⟨hr, ?_, ?_⟩
  · show decide (sgI X 21 % 2 = 0 ∧ -1048576 ≤ sgI X 21 ∧ sgI X 21 < 1048576) = true
    rw [decide_eq_true_iff]
    unfold sgI
    simp only [show (2 : Nat) ^ (21 - 1) = 1048576 by decide, show (2 : Int) ^ 21 = 2097152 by decide]
    clear hr hh hw2 hw hP hT hR hQ hrd
    split <;> omega
  · obtain ⟨u, hu⟩ : ∃ u, (sgI X 21 % 4294967296).toNat = u := ⟨_, rfl⟩
    rw [hu]
    unfold sgI at hu
    simp only [show (2 : Nat) ^ (21 - 1) = 1048576 by decide, show (2 : Int) ^ 21 = 2097152 by decide] at hu
    have hu2 : u < 4294967296 ∧ u % 2097152 = X := by
      clear hr hh hw2 hw hP hT hR hQ hrd
      constructor
      · omega
      · split at hu <;> omega
    clear hu
    obtain ⟨hu2, hu3⟩ := hu2
    obtain ⟨e, -, -, -⟩ := c8_sum b rd 0 0 u hb  hr hu2
    rw [e]
    clear e hr hh hP hT hR hQ hrd
    have zp : u / 1048576 % 2 = P := by clear hw2 hw; omega
    have zq : u / 2 % 1024 = Q := by clear hw2 hw; omega
    have zr : u / 2048 % 2 = R := by clear hw2 hw; omega
    have zt : u / 4096 % 256 = T := by clear hw2 hw; omega
    rw [zp, zq, zr, zt]
    exact hw2.symm
theorem c9_sum (b rd rs1 rs2 u : Nat) (hb : b < 4294967296) (f0 : b / 128 % 32 = 0) (f1 : b / 32768 % 32 = 0) (hr : regsB 8 rd rs1 rs2 = true) (hu : u < 4294967296) :
    encN 0 8 b rd rs1 rs2 u = b + rd * 128 + rs1 * 32768 ∧ rd < 32 ∧ rs1 < 32 ∧ rs2 = 0 := by
  have h : (rd < 32 ∧ rs1 < 32 ∧ rs2 = 0) := by
    have h := hr
    simp [regsB, hasZ, fit_yes, fit_no] at h
    omega
  clear hr
  obtain ⟨h1, h2, h3⟩ := h
  subst h3
  refine ⟨?_, by omega, by omega, rfl⟩
  have e : ibN 8 u = 0 := by
    rw [ibN_8]
  unfold encN
  rw [e]
  clear e
  simp only [Nat.zero_mul, Nat.or_zero, Nat.zero_or, ← Nat.or_assoc]
  rw [or7 _ _ (by omega) (by omega), or15 _ _ (by omega) (by omega)]
theorem c9_back (b : Nat) (hb : b < 4294967296) (hk : kindZ b = 8) (hs : shiftZ b = 0) (f0 : b / 128 % 32 = 0) (f1 : b / 32768 % 32 = 0) : Back b := by
  intro rd rs1 rs2 n hr hi
  unfold encB hitB
  rw [hk] at hr hi ⊢
  rw [hs] at hi ⊢
  have hn : n = 0 := by simpa [immB] using hi
  clear hi
  obtain ⟨u, hu⟩ : ∃ u, (n % 4294967296).toNat = u := ⟨_, rfl⟩
  obtain ⟨e, r1, r2, r3⟩ := c9_sum b rd rs1 rs2 u hb f0 f1 hr (by omega)
  clear hr
  rw [hu, e]
  clear e
  rw [show ownK 8 0 = 1019776 by decide, rdN_8, rs1N_8, rs2N_8, beq_iff_eq, immZ_8]
  have hw : b + rd * 128 + rs1 * 32768 < 4294967296 := by omega
  rw [clr8 _ hw]
  refine ⟨hw, by omega, by omega, by omega, by omega, ?_⟩
  omega
theorem c9_again (b : Nat) (hb : b < 4294967296) (hk : kindZ b = 8) (hs : shiftZ b = 0) (f0 : b / 128 % 32 = 0) (f1 : b / 32768 % 32 = 0) : Again b := by
  intro w hw hh
  unfold encB
  unfold hitB at hh
  rw [hk] at hh ⊢
  rw [hs] at hh ⊢
  rw [show ownK 8 0 = 1019776 by decide, beq_iff_eq, clr8 _ hw] at hh
  rw [rdN_8, rs1N_8, rs2N_8, immZ_8]
  have hr : regsB 8 (((w / 128 % 32) : Nat) : Int) (((w / 32768 % 32) : Nat) : Int) ((0 : Nat) : Int) = true := by
    simp only [regsB, hasZ_8, fit_yes, fit_no, if_true, show ((0 : Nat) : Int) = 0 from rfl]
    simp [fitB]
    omega
  refine ⟨hr, ?_, ?_⟩
  · simp only [immB]
    simp
  · obtain ⟨u, hu⟩ : ∃ u, (((0 : Int)) % 4294967296).toNat = u := ⟨_, rfl⟩
    rw [hu]
    obtain ⟨e, -, -, -⟩ := c9_sum b (w / 128 % 32) (w / 32768 % 32) 0 u hb f0 f1 hr (by omega)
    rw [e]
    clear e
    omega
theorem c10_sum (b rd rs1 rs2 u : Nat) (hb : b < 4294967296)  (hr : regsB 9 rd rs1 rs2 = true) (hu : u < 4294967296) :
    encN 0 9 b rd rs1 rs2 u = b ∧ rd = 0 ∧ rs1 = 0 ∧ rs2 = 0 := by
  have h : (rd = 0 ∧ rs1 = 0 ∧ rs2 = 0) := by
    have h := hr
    simp [regsB, hasZ, fit_yes, fit_no] at h
    omega
  clear hr
  obtain ⟨h1, h2, h3⟩ := h
  subst h1
  subst h2
  subst h3
  refine ⟨?_, rfl, rfl, rfl⟩
  have e : ibN 9 u = 0 := by
    rw [ibN_9]
  unfold encN
  rw [e]
  clear e
  simp only [Nat.zero_mul, Nat.or_zero, Nat.zero_or, ← Nat.or_assoc]
theorem c10_back (b : Nat) (hb : b < 4294967296) (hk : kindZ b = 9) (hs : shiftZ b = 0)  : Back b := by
  intro rd rs1 rs2 n hr hi
  unfold encB hitB
  rw [hk] at hr hi ⊢
  rw [hs] at hi ⊢
  have hn : n = 0 := by simpa [immB] using hi
  clear hi
  obtain ⟨u, hu⟩ : ∃ u, (n % 4294967296).toNat = u := ⟨_, rfl⟩
  obtain ⟨e, r1, r2, r3⟩ := c10_sum b rd rs1 rs2 u hb  hr (by omega)
  clear hr
  rw [hu, e]
  clear e
  rw [show ownK 9 0 = 0 by decide, rdN_9, rs1N_9, rs2N_9, beq_iff_eq, immZ_9]
  have hw : b < 4294967296 := by omega
  rw [clr0 _ hw]
  refine ⟨hw, by omega, by omega, by omega, by omega, ?_⟩
  omega
theorem c10_again (b : Nat) (hb : b < 4294967296) (hk : kindZ b = 9) (hs : shiftZ b = 0)  : Again b := by
  intro w hw hh
  unfold encB
  unfold hitB at hh
  rw [hk] at hh ⊢
  rw [hs] at hh ⊢
  rw [show ownK 9 0 = 0 by decide, beq_iff_eq, clr0 _ hw] at hh
  rw [rdN_9, rs1N_9, rs2N_9, immZ_9]
  have hr : regsB 9 ((0 : Nat) : Int) ((0 : Nat) : Int) ((0 : Nat) : Int) = true := by
    simp only [regsB, hasZ_9, fit_yes, fit_no, if_true, show ((0 : Nat) : Int) = 0 from rfl]
    simp [fitB]
  refine ⟨hr, ?_, ?_⟩
  · simp only [immB]
    simp
  · obtain ⟨u, hu⟩ : ∃ u, (((0 : Int)) % 4294967296).toNat = u := ⟨_, rfl⟩
    rw [hu]
    obtain ⟨e, -, -, -⟩ := c10_sum b 0 0 0 u hb  hr (by omega)
    rw [e]
    clear e
    omega
theorem c11_sum (b rd rs1 rs2 u : Nat) (hb : b < 4294967296) (f0 : b / 32768 % 32 = 0) (f1 : b / 1048576 % 32 = 0) (hr : regsB 10 rd rs1 rs2 = true) (hu : u < 4294967296) :
    encN 0 10 b rd rs1 rs2 u = b + rs1 * 32768 + rs2 * 1048576 ∧ rd = 0 ∧ rs1 < 32 ∧ rs2 < 32 := by
  have h : (rd = 0 ∧ rs1 < 32 ∧ rs2 < 32) := by
    have h := hr
    simp [regsB, hasZ, fit_yes, fit_no] at h
    omega
  clear hr
  obtain ⟨h1, h2, h3⟩ := h
  subst h1
  refine ⟨?_, rfl, by omega, by omega⟩
  have e : ibN 10 u = 0 := by
    rw [ibN_10]
  unfold encN
  rw [e]
  clear e
  simp only [Nat.zero_mul, Nat.or_zero, Nat.zero_or, ← Nat.or_assoc]
  rw [or15 _ _ (by omega) (by omega), or20 _ _ (by omega) (by omega)]
theorem c11_back (b : Nat) (hb : b < 4294967296) (hk : kindZ b = 10) (hs : shiftZ b = 0) (f0 : b / 32768 % 32 = 0) (f1 : b / 1048576 % 32 = 0) : Back b := by
  intro rd rs1 rs2 n hr hi
  unfold encB hitB
  rw [hk] at hr hi ⊢
  rw [hs] at hi ⊢
  have hn : n = 0 := by simpa [immB] using hi
  clear hi
  obtain ⟨u, hu⟩ : ∃ u, (n % 4294967296).toNat = u := ⟨_, rfl⟩
  obtain ⟨e, r1, r2, r3⟩ := c11_sum b rd rs1 rs2 u hb f0 f1 hr (by omega)
  clear hr
  rw [hu, e]
  clear e
  rw [show ownK 10 0 = 33521664 by decide, rdN_10, rs1N_10, rs2N_10, beq_iff_eq, immZ_10]
  have hw : b + rs1 * 32768 + rs2 * 1048576 < 4294967296 := by omega
  rw [clr10 _ hw]
  refine ⟨hw, by omega, by omega, by omega, by omega, ?_⟩
  omega
theorem c11_again (b : Nat) (hb : b < 4294967296) (hk : kindZ b = 10) (hs : shiftZ b = 0) (f0 : b / 32768 % 32 = 0) (f1 : b / 1048576 % 32 = 0) : Again b := by
  intro w hw hh
  unfold encB
  unfold hitB at hh
  rw [hk] at hh ⊢
  rw [hs] at hh ⊢
  rw [show ownK 10 0 = 33521664 by decide, beq_iff_eq, clr10 _ hw] at hh
  rw [rdN_10, rs1N_10, rs2N_10, immZ_10]
  have hr : regsB 10 ((0 : Nat) : Int) (((w / 32768 % 32) : Nat) : Int) (((w / 1048576 % 32) : Nat) : Int) = true := by
    simp only [regsB, hasZ_10, fit_yes, fit_no, if_true, show ((0 : Nat) : Int) = 0 from rfl]
    simp [fitB]
    omega
  refine ⟨hr, ?_, ?_⟩
  · simp only [immB]
    simp
  · obtain ⟨u, hu⟩ : ∃ u, (((0 : Int)) % 4294967296).toNat = u := ⟨_, rfl⟩
    rw [hu]
    obtain ⟨e, -, -, -⟩ := c11_sum b 0 (w / 32768 % 32) (w / 1048576 % 32) u hb f0 f1 hr (by omega)
    rw [e]
    clear e
    omega
theorem trips (op : Int) (h1 : 1 ≤ op) (h2 : op ≤ 82) : Back (bareN op) ∧ Again (bareN op) := by
  refine classes (P := fun b => Back b ∧ Again b) op h1 h2 ?_ ?_ ?_ ?_ ?_ ?_ ?_ ?_ ?_ ?_ ?_
  · intro b hb hk hs f0 f1 f2; exact ⟨c1_back b hb hk hs f0 f1 f2, c1_again b hb hk hs f0 f1 f2⟩
  · intro b hb hk hs f0; rcases hk with hk | hk
    · exact ⟨c2k2_back b hb hk hs f0, c2k2_again b hb hk hs f0⟩
    · exact ⟨c2k3_back b hb hk hs f0, c2k3_again b hb hk hs f0⟩
  · intro b hb hk hs f0 f1 f2; exact ⟨c3_back b hb hk hs f0 f1 f2, c3_again b hb hk hs f0 f1 f2⟩
  · intro b hb hk hs f0 f1 f2; exact ⟨c4_back b hb hk hs f0 f1 f2, c4_again b hb hk hs f0 f1 f2⟩
  · intro b hb hk hs f0; exact ⟨c5_back b hb hk hs f0, c5_again b hb hk hs f0⟩
  · intro b hb hk hs f0; exact ⟨c6_back b hb hk hs f0, c6_again b hb hk hs f0⟩
  · intro b hb hk hs ; exact ⟨c7_back b hb hk hs , c7_again b hb hk hs ⟩
  · intro b hb hk hs ; exact ⟨c8_back b hb hk hs , c8_again b hb hk hs ⟩
  · intro b hb hk hs f0 f1; exact ⟨c9_back b hb hk hs f0 f1, c9_again b hb hk hs f0 f1⟩
  · intro b hb hk hs ; exact ⟨c10_back b hb hk hs , c10_again b hb hk hs ⟩
  · intro b hb hk hs f0 f1; exact ⟨c11_back b hb hk hs f0 f1, c11_again b hb hk hs f0 f1⟩
end Go.Proofs.YtegoddghfjfibaaGreatDoor.Is

