/- Contracts of isa.Find, isa.Name, isa.Kind and isa.Encode. -/
import Derived.Test.YtdpmihlmfephiaaGreatDoorIsaT
import Derived.Test.YtdpmihlmfephiaaGreatDoorIsaE
import Derived.LoopTactic
import Derived.Deep.MidRow
import Derived.Deep.Cut
import Derived.Great.Walk
namespace Go.Proofs.YtdpmihlmfephiaaGreatDoor
set_option linter.unusedVariables false
set_option linter.unusedSimpArgs false
open Go.Joins Go.ChangeShapes Go.WideShapes Go.ChangeAt Go.RowKit
def namesL : List Value := (List.range 82).map fun (i : Nat) => .string ⟨(opN ((i : Int) + 1)).toArray⟩
theorem names_range (w : World) (hn : NT w) : w.rangeAt 1 0 namesL := by
  intro j v hj
  unfold namesL at hj
  rw [List.getElem?_map] at hj
  by_cases h : j < 82
  · rw [List.getElem?_range h] at hj
    rw [Nat.zero_add, hn.1.2 j h]
    simpa using hj
  · rw [List.getElem?_eq_none (by simp; omega)] at hj
    exact absurd hj (by simp)
theorem namesA_at (j : Nat) (h : j < 82) : namesL.toArray[j]? = some (.string ⟨(opN ((j : Int) + 1)).toArray⟩) := by
  unfold namesL
  rw [List.getElem?_toArray, List.getElem?_map, List.getElem?_range h]
  rfl
theorem index_at (A : List Value) (j : Nat) (v : Value) (hj : A.toArray[j]? = some v) (h : j < 82) (W : World) : (Instr.index 99 (.agg A.toArray) (.int .i64 (j : Int))).run Tryz.prog W = .ok v W := by
  rw [List.getElem?_toArray] at hj
  simp [Instr.index, go_sem, Sem.run_bind, run_underlying Tryz.underlying99, run_underlying Tryz.underlying9, h, hj]
/-- r is the number of the first operation of that name; 0: there is none -/
def FindP (s : List UInt8) (r : Nat) : Prop := (r = 0 ∧ ∀ k : Nat, k < 82 → (opN ((k : Int) + 1) == s) = false) ∨ (1 ≤ r ∧ r ≤ 82 ∧ (opN (r : Int) == s) = true ∧ ∀ k : Nat, k + 1 < r → (opN ((k : Int) + 1) == s) = false)
theorem find_any (s : List UInt8) (r : Nat) (hr : FindP s r) (w : World) (hn : NT w) : Calls Tryz.prog 33 #[.string ⟨s.toArray⟩] w fun e w' => e = .returned (.int .i64 r) ∧ w = w' := by
  have hld := names_range w hn
  have hat := namesA_at
  have hlen : namesL.length = 82 := by simp [namesL]
  obtain ⟨A, hA⟩ : ∃ A, namesL = A := ⟨_, rfl⟩
  rw [hA] at hld hat hlen
  have HT := Lib.hid hat
  have HL := Lib.hid hld
  have HE := Lib.hid hlen
  have HR := Lib.hid hr
  clear hA hn hat hld hlen hr
  go_enter Tryz.func33, Tryz.ntmps33
  go_upto_region 1 with fail
  apply wp_region_lit
  refine wpList_load_mid rfl _ _ rfl 1 0 rfl A (.array 82 9) HL.out Tryz.underlying99 rfl ?_ ?_
  · rw [HE.out]; kernel_rfl
  go_wp2_with fail
  go_loop [6] (fun i => ∃ j : Nat, j ≤ 82 ∧ i = .int .i64 j ∧ Hid (∀ k : Nat, k < j → (opN ((k : Int) + 1) == s) = false)) (fun i => 82 - (intOf i).toNat)
  case atStart => exact ⟨0, by omega, rfl, Lib.hid fun k hk => absurd hk (by omega)⟩
  case round =>
    obtain ⟨j, hj, rfl, HN⟩ := hrel
    by_cases h : j < 82
    · have ha := fun W => index_at A j _ (HT.out j h) h W
      by_cases hq : (opN ((j : Int) + 1) == s) = true
      · have e : r = j + 1 := by
          rcases HR.out with ⟨h0, h1⟩ | ⟨h1, h2, h3, h4⟩
          · have := h1 j h
            rw [hq] at this
            exact absurd this (by decide)
          · rcases Nat.lt_trichotomy r (j + 1) with k | k | k
            · have := HN.out (r - 1) (by omega)
              rw [show (((r - 1 : Nat) : Int) + 1) = (r : Int) by omega, h3] at this
              exact absurd this (by decide)
            · exact k
            · have := h4 j k
              rw [hq] at this
              exact absurd this (by decide)
        subst e
        clear HR HN HT HL HE
        generalize opN ((j : Int) + 1) = t at ha hq
        go_wp2_with fail
        go_ret
        exact ⟨by rfl, rfl⟩
      · rw [Bool.not_eq_true] at hq
        have HQ := Lib.hid hq
        obtain ⟨t, ht⟩ : ∃ t, opN ((j : Int) + 1) = t := ⟨_, rfl⟩
        rw [ht] at ha hq
        have HT' := Lib.hid ht
        clear ht
        go_wp2_with fail
        go_round
        case rel =>
          refine ⟨j + 1, by omega, by go_num, Lib.hid fun k hk => ?_⟩
          by_cases hkj : k = j
          · subst hkj; exact HQ.out
          · exact HN.out k (by omega)
        case measure => simp [intOf]; omega
    · have hd : decide ((j : Int) < 82) = false := decide_eq_false (by omega)
      have e : r = 0 := by
        rcases HR.out with ⟨h0, h1⟩ | ⟨h1, h2, h3, h4⟩
        · exact h0
        · have := HN.out (r - 1) (by omega)
          rw [show (((r - 1 : Nat) : Int) + 1) = (r : Int) by omega, h3] at this
          exact absurd this (by decide)
      subst e
      go_wp2_with fail
      go_ret
      exact ⟨rfl, rfl⟩

theorem is_yes (op : Int) (w : World) (h1 : 1 ≤ op) (h2 : op ≤ 82) : Calls Tryz.prog 63 #[.int .i64 op] w fun e w' => e = .returned (.bool true) ∧ w = w' := by
  have d1 : decide (1 ≤ op) = true := decide_eq_true h1
  have d2 : decide (op ≤ 82) = true := decide_eq_true h2
  go_enter Tryz.func63, Tryz.ntmps63
  go_wp2_with fail
  go_ret
  exact ⟨by simp [d1, d2], rfl⟩
theorem is_no (op : Int) (w : World) (h : op < 1 ∨ 82 < op) : Calls Tryz.prog 63 #[.int .i64 op] w fun e w' => e = .returned (.bool false) ∧ w = w' := by
  rcases h with h | h
  · have d1 : decide (1 ≤ op) = false := decide_eq_false (by omega)
    go_enter Tryz.func63, Tryz.ntmps63
    go_wp2_with fail
    go_ret
    exact ⟨rfl, rfl⟩
  · have d1 : decide (1 ≤ op) = true := decide_eq_true (by omega)
    have d2 : decide (op ≤ 82) = false := decide_eq_false (by omega)
    go_enter Tryz.func63, Tryz.ntmps63
    go_wp2_with fail
    go_ret
    exact ⟨by simp [d1, d2], rfl⟩
theorem opN_out (op : Int) (h : ¬ (1 ≤ op ∧ op ≤ 82)) : opN op = [] := by unfold opN opR; rw [if_neg h]
theorem name_any (op : Int) (w : World) (hn : NT w) : Calls Tryz.prog 28 #[.int .i64 op] w fun e w' => e = .returned (.string ⟨(opN op).toArray⟩) ∧ w = w' := by
  by_cases h : 1 ≤ op ∧ op ≤ 82
  · have hc := hn.1.2 (op.toNat - 1) (by omega)
    rw [show (((op.toNat - 1 : Nat) : Int) + 1) = op by omega] at hc
    obtain ⟨g1, g2⟩ := h
    clear hn
    go_enter Tryz.func28, Tryz.ntmps28
    go_wp2_with (go_at_call 63; refine (is_yes _ _ g1 g2).mono ?_; rintro e w' ⟨rfl, rfl⟩)
    go_ret
    exact ⟨rfl, rfl⟩
  · have HB : Hid (op < 1 ∨ 82 < op) := Lib.hid (by omega)
    have ho := opN_out op h
    clear h hn
    go_enter Tryz.func28, Tryz.ntmps28
    go_wp2_with (go_at_call 63; refine (is_no _ _ HB.out).mono ?_; rintro e w' ⟨rfl, rfl⟩)
    go_ret
    exact ⟨by rw [ho]; rfl, rfl⟩
/-- an operation's kind; 0: there is none -/
def kindO (op : Int) : Int := if 1 ≤ op ∧ op ≤ 82 then kindZ (bareN op) else 0
theorem kind_any (op : Int) (w : World) (hn : NT w) : Calls Tryz.prog 36 #[.int .i64 op] w fun e w' => e = .returned (.int .i64 (kindO op)) ∧ Below w.heap.size w w' := by
  unfold kindO
  by_cases h : 1 ≤ op ∧ op ≤ 82
  · have hc := hn.2.2 (op.toNat - 1) (by omega)
    rw [show (((op.toNat - 1 : Nat) : Int) + 1) = op by omega] at hc
    rw [if_pos h]
    obtain ⟨g1, g2⟩ := h
    have hk := fun w => kindOf_any (bareN op) w (knows op g1 g2).2.1
    generalize kindZ (bareN op) = k at hk ⊢
    generalize bareN op = b at hk hc
    have HK := Lib.hid hk
    clear hn hk
    go_enter Tryz.func36, Tryz.ntmps36
    go_wp2_with (go_at_call 63; refine (is_yes _ _ g1 g2).mono ?_; rintro e w' ⟨rfl, rfl⟩)
    refine (HK.out _).mono ?_; rintro e w1 ⟨rfl, q1⟩
    go_wp2_with fail
    go_ret
    exact ⟨rfl, q1⟩
  · have HB : Hid (op < 1 ∨ 82 < op) := Lib.hid (by omega)
    rw [if_neg h]
    clear h hn
    go_enter Tryz.func36, Tryz.ntmps36
    go_wp2_with (go_at_call 63; refine (is_no _ _ HB.out).mono ?_; rintro e w' ⟨rfl, rfl⟩)
    go_ret
    exact ⟨rfl, Below.refl _ _⟩
/-- may this be an instruction? its number, and the error -/
def rightB (op rd rs1 rs2 n : Int) : Bool := decide (1 ≤ op ∧ op ≤ 82) && (regsB (kindZ (bareN op)) rd rs1 rs2 && immB (kindZ (bareN op)) (shiftZ (bareN op)) n)
def encR (op rd rs1 rs2 n : Int) : Nat := if rightB op rd rs1 rs2 n = true then encB (bareN op) rd.toNat rs1.toNat rs2.toNat n else 0
def encE (op rd rs1 rs2 n : Int) : Int := if rightB op rd rs1 rs2 n = true then 0 else 1
theorem regs_in (k rd rs1 rs2 : Int) (h : regsB k rd rs1 rs2 = true) : (0 ≤ rd ∧ rd < 32) ∧ (0 ≤ rs1 ∧ rs1 < 32) ∧ 0 ≤ rs2 ∧ rs2 < 32 := by
  have hf : ∀ n t, fitB n t = true → 0 ≤ n ∧ n < 32 := by
    intro n t h
    unfold fitB at h
    split at h
    · rename_i h0; rw [beq_iff_eq] at h0; omega
    · split at h
      · split at h
        · rename_i h1; rw [decide_eq_true_iff] at h h1; omega
        · exact absurd h (by decide)
      · exact absurd h (by decide)
  unfold regsB at h
  split at h
  · split at h
    · rename_i h1 h2; exact ⟨hf _ _ h1, hf _ _ h2, hf _ _ h⟩
    · exact absurd h (by decide)
  · exact absurd h (by decide)
theorem ibN_lt (k : Int) (u : Nat) (hu : u < 4294967296) : ibN k u < 4294967296 := by
  refine kinds (P := fun k => ibN k u < 4294967296) k ?_ ?_ ?_ ?_ ?_ ?_ ?_
  · rw [ibN_2]; omega
  · rw [ibN_3]; omega
  · rw [ibN_4]; exact or_lt32 _ _ (by omega) (by omega)
  · rw [ibN_5]; exact or_lt32 _ _ (or_lt32 _ _ (or_lt32 _ _ (by omega) (by omega)) (by omega)) (by omega)
  · rw [ibN_6]; exact hu
  · rw [ibN_7]; exact or_lt32 _ _ (or_lt32 _ _ (or_lt32 _ _ (by omega) (by omega)) (by omega)) (by omega)
  · intro k f2 f3 f4 f5 f6 f7
    have : ibN k u = 0 := by simp [ibN, f2, f3, f4, f5, f6, f7]
    omega
set_option maxHeartbeats 4000000 in
theorem encode_any (op rd rs1 rs2 n : Int) (w : World) (hn : NT w) (hi : I64 n) :
    Calls Tryz.prog 27 #[instV op rd rs1 rs2 n] w fun e w' => e = .returned (.tuple #[.int .u32 ((encR op rd rs1 rs2 n : Nat) : Int), .int .i64 (encE op rd rs1 rs2 n)]) ∧ Below w.heap.size w w' := by
  unfold encR encE instV
  by_cases h : 1 ≤ op ∧ op ≤ 82
  · have hc := (hn.on (bAlloc (Below.refl _ _) (.cells #[.int .i64 op, .int .i64 rd, .int .i64 rs1, .int .i64 rs2, .int .i64 n] 23))).2.2 (op.toNat - 1) (by omega)
    rw [show (((op.toNat - 1 : Nat) : Int) + 1) = op by omega] at hc
    have B0 := Lib.hid (Box5.new w (.int .i64 op) (.int .i64 rd) (.int .i64 rs1) (.int .i64 rs2) (.int .i64 n) 23)
    obtain ⟨hg1, hb, -, -⟩ := knows op h.1 h.2
    obtain ⟨g1, g2⟩ := h
    obtain ⟨R, hR⟩ : ∃ R, rightB op rd rs1 rs2 n = R := ⟨_, rfl⟩
    have hR' := hR
    unfold rightB at hR'
    rw [decide_eq_true ⟨g1, g2⟩, Bool.true_and] at hR'
    rw [hR]
    clear hR
    unfold encB encN
    generalize bareN op = b at *
    have hk := fun w => kindOf_any b w hb
    have hs := fun w => shift_any b w hb
    generalize kindZ b = k at *
    generalize shiftZ b = s at *
    have hf := fun w => regsFit_any op rd rs1 rs2 n k w
    have hm := fun w => immFits_any n k s w hi hg1
    have hin := regs_in k rd rs1 rs2
    generalize regsB k rd rs1 rs2 = A1 at *
    generalize immB k s n = A2 at *
    obtain ⟨u, hu⟩ : ∃ u : Nat, n % 4294967296 = (u : Int) := ⟨(n % 4294967296).toNat, by omega⟩
    have hib := fun (s' : Int) w => immBits_any n u k s' w hu
    have hu' : (n % 4294967296).toNat = u := by omega
    rw [hu']
    have hil := ibN_lt k u (by omega)
    generalize ibN k u = ib at *
    have HK := Lib.hid hk
    have HS := Lib.hid hs
    have HF := Lib.hid hf
    have HM := Lib.hid hm
    have HI := Lib.hid hib
    clear hk hs hf hm hib hu hu' hn hg1 hi
    cases A1
    · have hz : R = false := by rw [← hR']; rfl
      subst hz
      clear hR' hin hil
      go_enter Tryz.func27, Tryz.ntmps27
      go_wp2_with (go_at_call 63; refine (is_yes _ _ g1 g2).mono ?_; rintro e w' ⟨rfl, rfl⟩)
      refine (HK.out _).mono ?_; rintro e w1 ⟨rfl, q1⟩
      have B1 := Lib.hid (B0.out.on q1); have Q1 := Lib.hid (bTrans (bAlloc (Below.refl _ _) _) q1); clear q1 B0 hc
      obtain ⟨f1, c0, c1, c2, c3, c4⟩ := B1.out
      clear f1 c0 c1 c2 c3 c4
      go_wp2_with fail
      refine wp_region_held_drew (S := fun W => W.cell? ⟨w.heap.size, 0, none⟩ = some (.int .i64 op) ∧ W.cell? ⟨w.heap.size, 1, none⟩ = some (.int .i64 rd) ∧ W.cell? ⟨w.heap.size, 2, none⟩ = some (.int .i64 rs1) ∧ W.cell? ⟨w.heap.size, 3, none⟩ = some (.int .i64 rs2) ∧ W.cell? ⟨w.heap.size, 4, none⟩ = some (.int .i64 n)) (by kernel_rfl) ?_ (fun hHeld => ?_)
      · exact (Box5.on B1.out (Below.drew (Below.refl _ _))).2
      refine wpAnyH_take (i := 0) (oi := { dst := some 17, op := .load 23 (.tmp 1), type := 23, pos := "encode.go:15", after := #[], guard := none }) (v := .agg #[.int .i64 op, .int .i64 rd, .int .i64 rs1, .int .i64 rs2, .int .i64 n]) rfl (by kernel_rfl) (by kernel_rfl) (by kernel_rfl) (fun _ _ _ h => h) (Or.inl ⟨by rfl, ?_⟩) (by assumption) ?_
      · intro W hSw; (try dsimp only at hSw); go_simp
      simp only [Act.put, List.setIfInBounds_toArray, List.set_cons_zero, List.set_cons_succ]
      refine wpAnyH_take (i := 1) (oi := { dst := some 18, op := .move (.tmp 5), type := 3, pos := "encode.go:15", after := #[], guard := none }) (v := .int .i64 k) rfl (by kernel_rfl) (by kernel_rfl) (by kernel_rfl) (fun _ _ _ h => h) (Or.inl ⟨by rfl, ?_⟩) (by assumption) ?_
      · intro W hSw; (try dsimp only at hSw); go_simp
      simp only [Act.put, List.setIfInBounds_toArray, List.set_cons_zero, List.set_cons_succ]
      refine wpAnyH_ready (rs := [2]) (by kernel_rfl) (by simp) ?_
      refine AllReadyH.cons rfl (fun K hK => ?_) ?_
      rotate_left
      · exact AllReadyH.nil
      go_simp
      refine (HF.out _).mono ?_; rintro e w2 ⟨rfl, hb⟩; have HB2 := Lib.hid (bTrans (w := w1) (Below.drew (Below.refl _ _)) hb); clear hb
      try (go_wp2_with fail)
      refine hK.out _ _ ?_ (fun hHeld => ?_)
      · exact (Box5.on B1.out HB2.out).2
      clear hK K
      try simp only [Act.put, List.setIfInBounds_toArray, List.set_cons_zero, List.set_cons_succ]
      refine wpAnyH_take (i := 3) (oi := { dst := some 20, op := .unOp .not 4 (.tmp 19), type := 4, pos := "encode.go:15", after := #[{ on := 2, ground := .data }], guard := none }) (v := .bool true) rfl (by kernel_rfl) (by kernel_rfl) (by kernel_rfl) (fun _ _ _ h => h) (Or.inl ⟨by rfl, ?_⟩) (by assumption) ?_
      · intro W hSw; (try dsimp only at hSw); go_simp
      simp only [Act.put, List.setIfInBounds_toArray, List.set_cons_zero, List.set_cons_succ]
      refine wpAnyH_take (i := 4) (oi := { dst := some 21, op := .move (.tmp 20), type := 4, pos := "encode.go:15", after := #[{ on := 3, ground := .data }, { on := 2, ground := .chain }], guard := none }) (v := .bool true) rfl (by kernel_rfl) (by kernel_rfl) (by kernel_rfl) (fun _ _ _ h => h) (Or.inl ⟨by rfl, ?_⟩) (by assumption) ?_
      · intro W hSw; (try dsimp only at hSw); go_simp
      simp only [Act.put, List.setIfInBounds_toArray, List.set_cons_zero, List.set_cons_succ]
      refine wpAnyH_take (i := 5) (oi := { dst := some 22, op := .fieldAddr 23 (.tmp 1) 4, type := 0, pos := "encode.go:15", after := #[{ on := 4, ground := .guard }], guard := some (4, false) }) (v := undef) rfl (by kernel_rfl) (by kernel_rfl) (by kernel_rfl) (fun _ _ _ h => h) (Or.inr ⟨by rfl, rfl⟩) (by assumption) ?_
      simp only [Act.put, List.setIfInBounds_toArray, List.set_cons_zero, List.set_cons_succ]
      refine wpAnyH_take (i := 6) (oi := { dst := some 23, op := .load 2 (.tmp 22), type := 2, pos := "encode.go:15", after := #[{ on := 5, ground := .data }, { on := 4, ground := .guard }], guard := some (4, false) }) (v := undef) rfl (by kernel_rfl) (by kernel_rfl) (by kernel_rfl) (fun _ _ _ h => h) (Or.inr ⟨by rfl, rfl⟩) (by assumption) ?_
      simp only [Act.put, List.setIfInBounds_toArray, List.set_cons_zero, List.set_cons_succ]
      refine wpAnyH_take (i := 7) (oi := { dst := some 24, op := .move (.tmp 5), type := 3, pos := "encode.go:15", after := #[{ on := 4, ground := .guard }], guard := some (4, false) }) (v := undef) rfl (by kernel_rfl) (by kernel_rfl) (by kernel_rfl) (fun _ _ _ h => h) (Or.inr ⟨by rfl, rfl⟩) (by assumption) ?_
      simp only [Act.put, List.setIfInBounds_toArray, List.set_cons_zero, List.set_cons_succ]
      refine wpAnyH_take (i := 8) (oi := { dst := some 25, op := .move (.tmp 4), type := 39, pos := "encode.go:15", after := #[{ on := 4, ground := .guard }], guard := some (4, false) }) (v := undef) rfl (by kernel_rfl) (by kernel_rfl) (by kernel_rfl) (fun _ _ _ h => h) (Or.inr ⟨by rfl, rfl⟩) (by assumption) ?_
      simp only [Act.put, List.setIfInBounds_toArray, List.set_cons_zero, List.set_cons_succ]
      refine wpAnyH_take (i := 9) (oi := { dst := some 26, op := .call { callee := .value (.func 67), args := #[.tmp 25], argTypes := #[39] }, type := 3, pos := "encode.go:15", after := #[{ on := 8, ground := .data }, { on := 4, ground := .chain }, { on := 4, ground := .guard }], guard := some (4, false) }) (v := undef) rfl (by kernel_rfl) (by kernel_rfl) (by kernel_rfl) (fun _ _ _ h => h) (Or.inr ⟨by rfl, rfl⟩) (by assumption) ?_
      simp only [Act.put, List.setIfInBounds_toArray, List.set_cons_zero, List.set_cons_succ]
      refine wpAnyH_take (i := 10) (oi := { dst := some 27, op := .call { callee := .value (.func 66), args := #[.tmp 23, .tmp 24, .tmp 26], argTypes := #[2, 3, 3] }, type := 4, pos := "encode.go:15", after := #[{ on := 6, ground := .data }, { on := 7, ground := .data }, { on := 9, ground := .data }, { on := 9, ground := .chain }, { on := 4, ground := .guard }], guard := some (4, false) }) (v := undef) rfl (by kernel_rfl) (by kernel_rfl) (by kernel_rfl) (fun _ _ _ h => h) (Or.inr ⟨by rfl, rfl⟩) (by assumption) ?_
      simp only [Act.put, List.setIfInBounds_toArray, List.set_cons_zero, List.set_cons_succ]
      refine wpAnyH_take (i := 11) (oi := { dst := some 28, op := .unOp .not 4 (.tmp 27), type := 4, pos := "encode.go:15", after := #[{ on := 10, ground := .data }, { on := 4, ground := .guard }], guard := some (4, false) }) (v := undef) rfl (by kernel_rfl) (by kernel_rfl) (by kernel_rfl) (fun _ _ _ h => h) (Or.inr ⟨by rfl, rfl⟩) (by assumption) ?_
      simp only [Act.put, List.setIfInBounds_toArray, List.set_cons_zero, List.set_cons_succ]
      refine wpAnyH_take (i := 12) (oi := { dst := some 29, op := .pick (.tmp 21) (.const (.bool true)) (.tmp 28), type := 4, pos := "encode.go:15", after := #[{ on := 4, ground := .data }, { on := 11, ground := .data }], guard := none }) (v := .bool true) rfl (by kernel_rfl) (by kernel_rfl) (by kernel_rfl) (fun _ _ _ h => h) (Or.inl ⟨by rfl, ?_⟩) (by assumption) ?_
      · intro W hSw; (try dsimp only at hSw); go_simp
      simp only [Act.put, List.setIfInBounds_toArray, List.set_cons_zero, List.set_cons_succ]
      refine wpAnyH_done (by kernel_rfl) ?_ _
      all_goals (go_wp2_with fail)
      all_goals exact bodyPost_ret (v := .tuple #[.int .u32 0, .int .i64 1]) (by simp [results, Tryz.results27, go_sem]) rfl ⟨rfl, bTrans Q1.out HB2.out⟩
    cases A2
    · have hz : R = false := by rw [← hR']; rfl
      subst hz
      clear hR' hin hil
      go_enter Tryz.func27, Tryz.ntmps27
      go_wp2_with (go_at_call 63; refine (is_yes _ _ g1 g2).mono ?_; rintro e w' ⟨rfl, rfl⟩)
      refine (HK.out _).mono ?_; rintro e w1 ⟨rfl, q1⟩
      have B1 := Lib.hid (B0.out.on q1); have Q1 := Lib.hid (bTrans (bAlloc (Below.refl _ _) _) q1); clear q1 B0 hc
      go_wp2_with fail
      go_region_held3 (fun W => W.cell? ⟨w.heap.size, 0, none⟩ = some (.int .i64 op) ∧ W.cell? ⟨w.heap.size, 1, none⟩ = some (.int .i64 rd) ∧ W.cell? ⟨w.heap.size, 2, none⟩ = some (.int .i64 rs1) ∧ W.cell? ⟨w.heap.size, 3, none⟩ = some (.int .i64 rs2) ∧ W.cell? ⟨w.heap.size, 4, none⟩ = some (.int .i64 n))
        (exact (Box5.on B1.out (by repeat' (first | (with_reducible exact HB3.out) | (with_reducible exact HB2.out) | (with_reducible exact Below.refl _ _) | (with_reducible refine Below.drew ?_)))).2)
        (first
          | (go_at_call 65; refine (HF.out _).mono ?_; rintro e w2 ⟨rfl, hb⟩; have HB2 := Lib.hid (bTrans (w := w1) (by repeat' (first | (with_reducible exact Below.refl _ _) | (with_reducible refine Below.drew ?_))) hb); clear hb)
          | (go_at_call 67; refine (HS.out _).mono ?_; rintro e w3 ⟨rfl, hb⟩; have HB3 := Lib.hid (bTrans (w := w1) (by repeat' (first | (with_reducible exact HB2.out) | (with_reducible refine Below.drew ?_))) hb); clear hb)
          | (go_at_call 66; refine (HM.out _).mono ?_; rintro e w4 ⟨rfl, rfl⟩))
      all_goals (go_wp2_with fail)
      all_goals exact bodyPost_ret (v := .tuple #[.int .u32 0, .int .i64 1]) (by simp [results, Tryz.results27, go_sem]) rfl ⟨rfl, bTrans Q1.out HB3.out⟩
    have hz : R = true := by rw [← hR']; rfl
    subst hz
    clear hR'
    obtain ⟨⟨x1, y1⟩, ⟨x2, y2⟩, x3, y3⟩ := hin rfl
    obtain ⟨rd, rfl⟩ := Int.eq_ofNat_of_zero_le x1
    obtain ⟨rs1, rfl⟩ := Int.eq_ofNat_of_zero_le x2
    obtain ⟨rs2, rfl⟩ := Int.eq_ofNat_of_zero_le x3
    have l1 : rd < 32 := by omega
    have l2 : rs1 < 32 := by omega
    have l3 : rs2 < 32 := by omega
    clear hin x1 x2 x3 y1 y2 y3
    have q4 : rd * 128 ||| rs1 * 32768 < 4294967296 := or_lt32 _ _ (by omega) (by omega)
    have q5 : (rd * 128 ||| rs1 * 32768) ||| rs2 * 1048576 < 4294967296 := or_lt32 _ _ q4 (by omega)
    have q6 := or_lt32 _ _ hb q5
    have he : bits .or .u32 (b : Int) (bits .or .u32 (bits .or .u32 ((rd : Int) * 128) ((rs1 : Int) * 32768)) ((rs2 : Int) * 1048576)) = ((b ||| ((rd * 128 ||| rs1 * 32768) ||| rs2 * 1048576) : Nat) : Int) := by
      rw [show (rd : Int) * 128 = ((rd * 128 : Nat) : Int) by omega, show (rs1 : Int) * 32768 = ((rs1 * 32768 : Nat) : Int) by omega, show (rs2 : Int) * 1048576 = ((rs2 * 1048576 : Nat) : Int) by omega, u32or _ _ (by omega) (by omega), u32or _ _ q4 (by omega), u32or _ _ hb q5]
    rw [Int.toNat_natCast, Int.toNat_natCast, Int.toNat_natCast]
    generalize b ||| ((rd * 128 ||| rs1 * 32768) ||| rs2 * 1048576) = D at *
    have hs2 := fun w => shift_any D w q6
    generalize shiftZ D = s2 at hs2
    have HS2 := Lib.hid hs2
    have HE := Lib.hid he
    have ho := u32or D ib q6 hil
    have HO := Lib.hid ho
    clear q4 q5 he hs2 ho
    go_enter Tryz.func27, Tryz.ntmps27
    go_wp2_with (go_at_call 63; refine (is_yes _ _ g1 g2).mono ?_; rintro e w' ⟨rfl, rfl⟩)
    refine (HK.out _).mono ?_; rintro e w1 ⟨rfl, q1⟩
    have B1 := Lib.hid (B0.out.on q1); have Q1 := Lib.hid (bTrans (bAlloc (Below.refl _ _) _) q1); clear q1 B0 hc
    go_wp2_with fail
    go_region_held3 (fun W => W.cell? ⟨w.heap.size, 0, none⟩ = some (.int .i64 op) ∧ W.cell? ⟨w.heap.size, 1, none⟩ = some (.int .i64 rd) ∧ W.cell? ⟨w.heap.size, 2, none⟩ = some (.int .i64 rs1) ∧ W.cell? ⟨w.heap.size, 3, none⟩ = some (.int .i64 rs2) ∧ W.cell? ⟨w.heap.size, 4, none⟩ = some (.int .i64 n))
      (exact (Box5.on B1.out (by repeat' (first | (with_reducible exact HB3.out) | (with_reducible exact HB2.out) | (with_reducible exact Below.refl _ _) | (with_reducible refine Below.drew ?_)))).2)
      (first
        | (go_at_call 65; refine (HF.out _).mono ?_; rintro e w2 ⟨rfl, hb⟩; have HB2 := Lib.hid (bTrans (w := w1) (by repeat' (first | (with_reducible exact Below.refl _ _) | (with_reducible refine Below.drew ?_))) hb); clear hb)
        | (go_at_call 67; refine (HS.out _).mono ?_; rintro e w3 ⟨rfl, hb⟩; have HB3 := Lib.hid (bTrans (w := w1) (by repeat' (first | (with_reducible exact HB2.out) | (with_reducible refine Below.drew ?_))) hb); clear hb)
        | (go_at_call 66; refine (HM.out _).mono ?_; rintro e w4 ⟨rfl, rfl⟩))
    all_goals (have B3 := Lib.hid (B1.out.on HB3.out); have Q3 := Lib.hid (bTrans Q1.out HB3.out); obtain ⟨f3, c0, c1, c2, c3, c4⟩ := B3.out; clear B1 Q1 HB2 HB3)
    all_goals (go_wp2_with fail)
    all_goals rw [HE.out]
    all_goals (go_region_held3 (fun W => W.cell? ⟨w.heap.size, 0, none⟩ = some (.int .i64 op) ∧ W.cell? ⟨w.heap.size, 1, none⟩ = some (.int .i64 rd) ∧ W.cell? ⟨w.heap.size, 2, none⟩ = some (.int .i64 rs1) ∧ W.cell? ⟨w.heap.size, 3, none⟩ = some (.int .i64 rs2) ∧ W.cell? ⟨w.heap.size, 4, none⟩ = some (.int .i64 n))
      (exact (Box5.on B3.out (by repeat' (first | (with_reducible exact HB5.out) | (with_reducible exact HB4.out) | (with_reducible exact Below.refl _ _) | (with_reducible refine Below.drew ?_)))).2)
      (first
        | (go_at_call 67; refine (HS2.out _).mono ?_; rintro e w4 ⟨rfl, hb⟩; have HB4 := Lib.hid (bTrans (w := w3) (by repeat' (first | (with_reducible exact Below.refl _ _) | (with_reducible refine Below.drew ?_))) hb); clear hb)
        | (go_at_call 68; refine (HI.out _ _).mono ?_; rintro e w5 ⟨rfl, hb⟩; have HB5 := Lib.hid (bTrans (w := w3) (by repeat' (first | (with_reducible exact HB4.out) | (with_reducible refine Below.drew ?_))) hb); clear hb)))
    all_goals (go_wp2_with fail)
    all_goals exact bodyPost_ret (v := .tuple #[.int .u32 ((D ||| ib : Nat) : Int), .int .i64 0]) (by simp [results, Tryz.results27, go_sem]; exact HO.out) rfl ⟨rfl, bTrans Q3.out HB5.out⟩
  · have HB : Hid (op < 1 ∨ 82 < op) := Lib.hid (by omega)
    have hz : rightB op rd rs1 rs2 n = false := by unfold rightB; rw [decide_eq_false h, Bool.false_and]
    rw [hz]
    clear h hn hz hi
    go_enter Tryz.func27, Tryz.ntmps27
    go_wp2_with (go_at_call 63; refine (is_no _ _ HB.out).mono ?_; rintro e w' ⟨rfl, rfl⟩)
    exact bodyPost_ret (v := .tuple #[.int .u32 0, .int .i64 1]) (by simp [results, Tryz.results27, go_sem]) rfl ⟨rfl, bAlloc (Below.refl _ _) _⟩
end Go.Proofs.YtdpmihlmfephiaaGreatDoor
