/- IsaD -/
import Derived.Test.YtegoddghfjfibaaGreatDoorZ11
namespace Go.Proofs.YtegoddghfjfibaaGreatDoor.Is
set_option linter.unusedVariables false
set_option linter.unusedSimpArgs false
open Go.Joins Go.ChangeShapes Go.WideShapes Go.ChangeAt Go.RowKit

/-- a struct of five cells that stands in a block of its own, and may be written -/
def Box5 (W : World) (P : Nat) (v0 v1 v2 v3 v4 : Value) : Prop := (∀ j, W.frozen? ⟨P, j, none⟩ = false) ∧ W.cell? ⟨P, 0, none⟩ = some v0 ∧ W.cell? ⟨P, 1, none⟩ = some v1 ∧ W.cell? ⟨P, 2, none⟩ = some v2 ∧ W.cell? ⟨P, 3, none⟩ = some v3 ∧ W.cell? ⟨P, 4, none⟩ = some v4
theorem Box5.lt {W : World} {P : Nat} {v0 v1 v2 v3 v4 : Value} (h : Box5 W P v0 v1 v2 v3 v4) : P < W.heap.size := heap_lt_of_cell h.2.1
theorem frozen_below {W W' : World} (hb : Below W.heap.size W W') {P : Nat} (hP : P < W.heap.size) (j : Nat) : W'.frozen? ⟨P, j, none⟩ = W.frozen? ⟨P, j, none⟩ := by
  have h := hb.block P hP
  unfold World.frozen?
  simp [h]
theorem Box5.on {W W' : World} {P : Nat} {v0 v1 v2 v3 v4 : Value} (h : Box5 W P v0 v1 v2 v3 v4) (hb : Below W.heap.size W W') : Box5 W' P v0 v1 v2 v3 v4 := by
  have hP := h.lt
  obtain ⟨hf, h0, h1, h2, h3, h4⟩ := h
  exact ⟨fun j => (frozen_below hb hP j).trans (hf j), (hb.cell (p := ⟨P, 0, none⟩) hP).trans h0, (hb.cell (p := ⟨P, 1, none⟩) hP).trans h1, (hb.cell (p := ⟨P, 2, none⟩) hP).trans h2, (hb.cell (p := ⟨P, 3, none⟩) hP).trans h3, (hb.cell (p := ⟨P, 4, none⟩) hP).trans h4⟩
theorem Box5.new (W : World) (v0 v1 v2 v3 v4 : Value) (t : TypeId) : Box5 (W.alloc (.cells #[v0, v1, v2, v3, v4] t)) W.heap.size v0 v1 v2 v3 v4 := by
  have b := boxed (cs := #[v0, v1, v2, v3, v4]) (t := t) (Below.refl (W.alloc (.cells #[v0, v1, v2, v3, v4] t)).heap.size (W.alloc (.cells #[v0, v1, v2, v3, v4] t)))
  exact ⟨boxedF (Below.refl _ _), b 0, b 1, b 2, b 3, b 4⟩
theorem frozen_set (W : World) (p : Addr) (v : Value) (P j : Nat) : (W.setCell p v).frozen? ⟨P, j, none⟩ = W.frozen? ⟨P, j, none⟩ := by
  simp
theorem Box5.other {W : World} {P : Nat} {v0 v1 v2 v3 v4 : Value} (h : Box5 W P v0 v1 v2 v3 v4) (Q j : Nat) (v : Value) (hne : P ≠ Q) : Box5 (W.setCell ⟨Q, j, none⟩ v) P v0 v1 v2 v3 v4 := by
  obtain ⟨hf, h0, h1, h2, h3, h4⟩ := h
  exact ⟨fun i => (frozen_set _ _ _ _ _).trans (hf i), (World.cell?_setCell_other _ _ _ _ (by simp [hne])).trans h0, (World.cell?_setCell_other _ _ _ _ (by simp [hne])).trans h1, (World.cell?_setCell_other _ _ _ _ (by simp [hne])).trans h2, (World.cell?_setCell_other _ _ _ _ (by simp [hne])).trans h3, (World.cell?_setCell_other _ _ _ _ (by simp [hne])).trans h4⟩
theorem Box5.set0 {W : World} {P : Nat} {v0 v1 v2 v3 v4 : Value} (h : Box5 W P v0 v1 v2 v3 v4) (v : Value) : Box5 (W.setCell ⟨P, 0, none⟩ v) P v v1 v2 v3 v4 := by
  obtain ⟨hf, h0, h1, h2, h3, h4⟩ := h
  exact ⟨fun i => (frozen_set _ _ _ _ _).trans (hf i), World.cell?_setCell_same (u := v0) _ _ _ h0, (World.cell?_setCell_other _ _ _ _ (by simp)).trans h1, (World.cell?_setCell_other _ _ _ _ (by simp)).trans h2, (World.cell?_setCell_other _ _ _ _ (by simp)).trans h3, (World.cell?_setCell_other _ _ _ _ (by simp)).trans h4⟩
theorem Box5.set1 {W : World} {P : Nat} {v0 v1 v2 v3 v4 : Value} (h : Box5 W P v0 v1 v2 v3 v4) (v : Value) : Box5 (W.setCell ⟨P, 1, none⟩ v) P v0 v v2 v3 v4 := by
  obtain ⟨hf, h0, h1, h2, h3, h4⟩ := h
  exact ⟨fun i => (frozen_set _ _ _ _ _).trans (hf i), (World.cell?_setCell_other _ _ _ _ (by simp)).trans h0, World.cell?_setCell_same (u := v1) _ _ _ h1, (World.cell?_setCell_other _ _ _ _ (by simp)).trans h2, (World.cell?_setCell_other _ _ _ _ (by simp)).trans h3, (World.cell?_setCell_other _ _ _ _ (by simp)).trans h4⟩
theorem Box5.set2 {W : World} {P : Nat} {v0 v1 v2 v3 v4 : Value} (h : Box5 W P v0 v1 v2 v3 v4) (v : Value) : Box5 (W.setCell ⟨P, 2, none⟩ v) P v0 v1 v v3 v4 := by
  obtain ⟨hf, h0, h1, h2, h3, h4⟩ := h
  exact ⟨fun i => (frozen_set _ _ _ _ _).trans (hf i), (World.cell?_setCell_other _ _ _ _ (by simp)).trans h0, (World.cell?_setCell_other _ _ _ _ (by simp)).trans h1, World.cell?_setCell_same (u := v2) _ _ _ h2, (World.cell?_setCell_other _ _ _ _ (by simp)).trans h3, (World.cell?_setCell_other _ _ _ _ (by simp)).trans h4⟩
theorem Box5.set3 {W : World} {P : Nat} {v0 v1 v2 v3 v4 : Value} (h : Box5 W P v0 v1 v2 v3 v4) (v : Value) : Box5 (W.setCell ⟨P, 3, none⟩ v) P v0 v1 v2 v v4 := by
  obtain ⟨hf, h0, h1, h2, h3, h4⟩ := h
  exact ⟨fun i => (frozen_set _ _ _ _ _).trans (hf i), (World.cell?_setCell_other _ _ _ _ (by simp)).trans h0, (World.cell?_setCell_other _ _ _ _ (by simp)).trans h1, (World.cell?_setCell_other _ _ _ _ (by simp)).trans h2, World.cell?_setCell_same (u := v3) _ _ _ h3, (World.cell?_setCell_other _ _ _ _ (by simp)).trans h4⟩
theorem Box5.set4 {W : World} {P : Nat} {v0 v1 v2 v3 v4 : Value} (h : Box5 W P v0 v1 v2 v3 v4) (v : Value) : Box5 (W.setCell ⟨P, 4, none⟩ v) P v0 v1 v2 v3 v := by
  obtain ⟨hf, h0, h1, h2, h3, h4⟩ := h
  exact ⟨fun i => (frozen_set _ _ _ _ _).trans (hf i), (World.cell?_setCell_other _ _ _ _ (by simp)).trans h0, (World.cell?_setCell_other _ _ _ _ (by simp)).trans h1, (World.cell?_setCell_other _ _ _ _ (by simp)).trans h2, (World.cell?_setCell_other _ _ _ _ (by simp)).trans h3, World.cell?_setCell_same (u := v4) _ _ _ h4⟩
theorem Box5.set {W : World} {P : Nat} {u0 u1 u2 u3 u4 : Value} (h : Box5 W P u0 u1 u2 u3 u4) (v0 v1 v2 v3 v4 : Value) : Box5 (((((W.setCell ⟨P, 0, none⟩ v0).setCell ⟨P, 1, none⟩ v1).setCell ⟨P, 2, none⟩ v2).setCell ⟨P, 3, none⟩ v3).setCell ⟨P, 4, none⟩ v4) P v0 v1 v2 v3 v4 :=
  ((((h.set0 v0).set1 v1).set2 v2).set3 v3).set4 v4
/-- an instruction as a value -/
def instV (op rd rs1 rs2 n : Int) : Value := .agg #[.int .i64 op, .int .i64 rd, .int .i64 rs1, .int .i64 rs2, .int .i64 n]
def ReadP (op k s : Int) (b x : Nat) : Prop := ∀ w : World, Calls Tryz.prog 134 #[.int .i64 op, .int .u32 (b : Int), .int .u32 (x : Int)] w fun e w' => e = .returned (instV op (rdN k x) (rs1N k x) (rs2N k x) (immZ k s x)) ∧ Below w.heap.size w w'
def Imm (x : Nat) (s k : Int) : Prop := ∀ w : World, Calls Tryz.prog 174 #[.int .u32 (x : Int), .int .i64 k, .int .i64 s] w fun e w' => e = .returned (.int .i64 (immZ k s x)) ∧ Below w.heap.size w w'
theorem read1 (op s : Int) (b x : Nat) (hb : b < 4294967296) (hx : x < 4294967296) (hk : kindZ b = 1) (hs : shiftZ b = s) (hi : Imm x s 1) : ReadP op 1 s b x := by
  intro w
  have h1 := fun w => kindOf_any b w hb
  have h2 := fun w => shift_any b w hb
  rw [hk] at h1
  rw [hs] at h2
  have H1 := Lib.hid h1
  have H2 := Lib.hid h2
  obtain ⟨n, hn⟩ : ∃ v, immZ 1 s x = v := ⟨_, rfl⟩
  unfold Imm at hi
  rw [hn] at hi ⊢
  have HI := Lib.hid hi
  have hh := fun w => has_any 1 w
  rw [hasZ_1] at hh
  have HH := Lib.hid hh
  rw [rdN_1, rs1N_1, rs2N_1]
  have fra := f_at x 7 5 128 32 hx (by decide) (by decide) rfl rfl
  obtain ⟨ra, era⟩ : ∃ v, x / 128 % 32 = v := ⟨_, rfl⟩
  have lra : ra < 32 := by omega
  unfold FAt at fra
  rw [era] at fra ⊢
  have Fra := Lib.hid fra
  clear fra era
  have frb := f_at x 15 5 32768 32 hx (by decide) (by decide) rfl rfl
  obtain ⟨rb, erb⟩ : ∃ v, x / 32768 % 32 = v := ⟨_, rfl⟩
  have lrb : rb < 32 := by omega
  unfold FAt at frb
  rw [erb] at frb ⊢
  have Frb := Lib.hid frb
  clear frb erb
  have frc := f_at x 20 5 1048576 32 hx (by decide) (by decide) rfl rfl
  obtain ⟨rc, erc⟩ : ∃ v, x / 1048576 % 32 = v := ⟨_, rfl⟩
  have lrc : rc < 32 := by omega
  unfold FAt at frc
  rw [erc] at frc ⊢
  have Frc := Lib.hid frc
  clear frc erc
  clear h1 h2 hk hs hi hn hh hb hx
  go_enter Tryz.func134, Tryz.ntmps134
  go_wp2_with fail
  refine (H1.out _).mono ?_; rintro e w1 ⟨rfl, q1⟩
  have R1 := Lib.hid ((Box5.new w (.int .i64 0) (.int .i64 0) (.int .i64 0) (.int .i64 0) (.int .i64 0) 61).on q1); have Q1 := Lib.hid (bTrans (bAlloc (Below.refl _ _) _) q1); clear q1
  go_wp2_with fail
  refine (H2.out _).mono ?_; rintro e w2 ⟨rfl, q2⟩; have R2 := Lib.hid (R1.out.on q2); have Q2 := Lib.hid (bTrans Q1.out q2); clear q2 R1 Q1
  go_wp2_with fail
  refine (HI.out _).mono ?_; rintro e w3 ⟨rfl, q3⟩; have R3 := Lib.hid (R2.out.on q3); have Q3 := Lib.hid (bTrans Q2.out q3); clear q3 R2 Q2
  go_wp2_with fail
  refine (HH.out _).mono ?_; rintro e w4 ⟨rfl, rfl⟩
  have B4 := Lib.hid (Box5.new w3 (.int .i64 op) (.int .i64 0) (.int .i64 0) (.int .i64 0) (.int .i64 n) 61)
  have R4 := Lib.hid (R3.out.on (bAlloc (Below.refl _ _) (.cells #[.int .i64 op, .int .i64 0, .int .i64 0, .int .i64 0, .int .i64 n] 61)))
  have NE := Lib.hid (Nat.ne_of_lt R3.out.lt)
  have LW := Lib.hid (Nat.le_of_lt R3.out.lt)
  have Q4 := Lib.hid (bAlloc Q3.out (.cells #[.int .i64 op, .int .i64 0, .int .i64 0, .int .i64 0, .int .i64 n] 61))
  clear R3 Q3
  go_wp2_with fail
  refine (Fra.out _).mono ?_; rintro e w5 ⟨rfl, q5⟩
  have Ba5 := Lib.hid (B4.out.on q5); have Ra5 := Lib.hid (R4.out.on q5); have Qa5 := Lib.hid (bTrans Q4.out q5); clear q5 B4 R4 Q4
  have Bb5 := Lib.hid (Ba5.out.set1 (.int .i64 ra)); have Rb5 := Lib.hid (Ra5.out.other _ 1 (.int .i64 ra) NE.out); have Qb5 := Lib.hid (Below.setCell (p := ⟨w3.heap.size, 1, none⟩) Qa5.out LW.out (.int .i64 ra))
  obtain ⟨g5, c50, c51, c52, c53, c54⟩ := Ba5.out
  have g5' := g5 1
  clear Ba5 Ra5 Qa5
  go_wp2_with fail
  clear g5 g5' c50 c51 c52 c53 c54
  refine (Frb.out _).mono ?_; rintro e w6 ⟨rfl, q6⟩
  have Ba6 := Lib.hid (Bb5.out.on q6); have Ra6 := Lib.hid (Rb5.out.on q6); have Qa6 := Lib.hid (bTrans Qb5.out q6); clear q6 Bb5 Rb5 Qb5
  have Bb6 := Lib.hid (Ba6.out.set2 (.int .i64 rb)); have Rb6 := Lib.hid (Ra6.out.other _ 2 (.int .i64 rb) NE.out); have Qb6 := Lib.hid (Below.setCell (p := ⟨w3.heap.size, 2, none⟩) Qa6.out LW.out (.int .i64 rb))
  obtain ⟨g6, c60, c61, c62, c63, c64⟩ := Ba6.out
  have g6' := g6 2
  clear Ba6 Ra6 Qa6
  go_wp2_with fail
  clear g6 g6' c60 c61 c62 c63 c64
  refine (Frc.out _).mono ?_; rintro e w7 ⟨rfl, q7⟩
  have Ba7 := Lib.hid (Bb6.out.on q7); have Ra7 := Lib.hid (Rb6.out.on q7); have Qa7 := Lib.hid (bTrans Qb6.out q7); clear q7 Bb6 Rb6 Qb6
  have Bb7 := Lib.hid (Ba7.out.set3 (.int .i64 rc)); have Rb7 := Lib.hid (Ra7.out.other _ 3 (.int .i64 rc) NE.out); have Qb7 := Lib.hid (Below.setCell (p := ⟨w3.heap.size, 3, none⟩) Qa7.out LW.out (.int .i64 rc))
  obtain ⟨g7, c70, c71, c72, c73, c74⟩ := Ba7.out
  have g7' := g7 3
  obtain ⟨k7, d70, d71, d72, d73, d74⟩ := Rb7.out
  have k7 := Ra7.out.1
  have k70 := k7 0; have k71 := k7 1; have k72 := k7 2; have k73 := k7 3; have k74 := k7 4
  obtain ⟨y0, y1, y2, y3, y4, y5⟩ := Bb7.out
  clear Ba7 Ra7 Qa7
  go_wp2_with fail
  obtain ⟨z, z0, z1, z2, z3, z4⟩ := Rb7.out.set (.int .i64 op) (.int .i64 ((ra : Nat) : Int)) (.int .i64 ((rb : Nat) : Int)) (.int .i64 ((rc : Nat) : Int)) (.int .i64 n)
  refine bodyPost_ret (v := instV op ((ra : Nat) : Int) ((rb : Nat) : Int) ((rc : Nat) : Int) n) ?_ rfl ⟨rfl, ?_⟩
  · simp [results, Tryz.results134, go_sem, instV, z0, z1, z2, z3, z4]
  · exact Below.setCell (Below.setCell (Below.setCell (Below.setCell (Below.setCell Qb7.out (Nat.le_refl _) _) (Nat.le_refl _) _) (Nat.le_refl _) _) (Nat.le_refl _) _) (Nat.le_refl _) _
theorem read2 (op s : Int) (b x : Nat) (hb : b < 4294967296) (hx : x < 4294967296) (hk : kindZ b = 2) (hs : shiftZ b = s) (hi : Imm x s 2) : ReadP op 2 s b x := by
  intro w
  have h1 := fun w => kindOf_any b w hb
  have h2 := fun w => shift_any b w hb
  rw [hk] at h1
  rw [hs] at h2
  have H1 := Lib.hid h1
  have H2 := Lib.hid h2
  obtain ⟨n, hn⟩ : ∃ v, immZ 2 s x = v := ⟨_, rfl⟩
  unfold Imm at hi
  rw [hn] at hi ⊢
  have HI := Lib.hid hi
  have hh := fun w => has_any 2 w
  rw [hasZ_2] at hh
  have HH := Lib.hid hh
  rw [rdN_2, rs1N_2, rs2N_2]
  have fra := f_at x 7 5 128 32 hx (by decide) (by decide) rfl rfl
  obtain ⟨ra, era⟩ : ∃ v, x / 128 % 32 = v := ⟨_, rfl⟩
  have lra : ra < 32 := by omega
  unfold FAt at fra
  rw [era] at fra ⊢
  have Fra := Lib.hid fra
  clear fra era
  have frb := f_at x 15 5 32768 32 hx (by decide) (by decide) rfl rfl
  obtain ⟨rb, erb⟩ : ∃ v, x / 32768 % 32 = v := ⟨_, rfl⟩
  have lrb : rb < 32 := by omega
  unfold FAt at frb
  rw [erb] at frb ⊢
  have Frb := Lib.hid frb
  clear frb erb
  clear h1 h2 hk hs hi hn hh hb hx
  go_enter Tryz.func134, Tryz.ntmps134
  go_wp2_with fail
  refine (H1.out _).mono ?_; rintro e w1 ⟨rfl, q1⟩
  have R1 := Lib.hid ((Box5.new w (.int .i64 0) (.int .i64 0) (.int .i64 0) (.int .i64 0) (.int .i64 0) 61).on q1); have Q1 := Lib.hid (bTrans (bAlloc (Below.refl _ _) _) q1); clear q1
  go_wp2_with fail
  refine (H2.out _).mono ?_; rintro e w2 ⟨rfl, q2⟩; have R2 := Lib.hid (R1.out.on q2); have Q2 := Lib.hid (bTrans Q1.out q2); clear q2 R1 Q1
  go_wp2_with fail
  refine (HI.out _).mono ?_; rintro e w3 ⟨rfl, q3⟩; have R3 := Lib.hid (R2.out.on q3); have Q3 := Lib.hid (bTrans Q2.out q3); clear q3 R2 Q2
  go_wp2_with fail
  refine (HH.out _).mono ?_; rintro e w4 ⟨rfl, rfl⟩
  have B4 := Lib.hid (Box5.new w3 (.int .i64 op) (.int .i64 0) (.int .i64 0) (.int .i64 0) (.int .i64 n) 61)
  have R4 := Lib.hid (R3.out.on (bAlloc (Below.refl _ _) (.cells #[.int .i64 op, .int .i64 0, .int .i64 0, .int .i64 0, .int .i64 n] 61)))
  have NE := Lib.hid (Nat.ne_of_lt R3.out.lt)
  have LW := Lib.hid (Nat.le_of_lt R3.out.lt)
  have Q4 := Lib.hid (bAlloc Q3.out (.cells #[.int .i64 op, .int .i64 0, .int .i64 0, .int .i64 0, .int .i64 n] 61))
  clear R3 Q3
  go_wp2_with fail
  refine (Fra.out _).mono ?_; rintro e w5 ⟨rfl, q5⟩
  have Ba5 := Lib.hid (B4.out.on q5); have Ra5 := Lib.hid (R4.out.on q5); have Qa5 := Lib.hid (bTrans Q4.out q5); clear q5 B4 R4 Q4
  have Bb5 := Lib.hid (Ba5.out.set1 (.int .i64 ra)); have Rb5 := Lib.hid (Ra5.out.other _ 1 (.int .i64 ra) NE.out); have Qb5 := Lib.hid (Below.setCell (p := ⟨w3.heap.size, 1, none⟩) Qa5.out LW.out (.int .i64 ra))
  obtain ⟨g5, c50, c51, c52, c53, c54⟩ := Ba5.out
  have g5' := g5 1
  clear Ba5 Ra5 Qa5
  go_wp2_with fail
  clear g5 g5' c50 c51 c52 c53 c54
  refine (Frb.out _).mono ?_; rintro e w6 ⟨rfl, q6⟩
  have Ba6 := Lib.hid (Bb5.out.on q6); have Ra6 := Lib.hid (Rb5.out.on q6); have Qa6 := Lib.hid (bTrans Qb5.out q6); clear q6 Bb5 Rb5 Qb5
  have Bb6 := Lib.hid (Ba6.out.set2 (.int .i64 rb)); have Rb6 := Lib.hid (Ra6.out.other _ 2 (.int .i64 rb) NE.out); have Qb6 := Lib.hid (Below.setCell (p := ⟨w3.heap.size, 2, none⟩) Qa6.out LW.out (.int .i64 rb))
  obtain ⟨g6, c60, c61, c62, c63, c64⟩ := Ba6.out
  have g6' := g6 2
  obtain ⟨k6, d60, d61, d62, d63, d64⟩ := Rb6.out
  have k6 := Ra6.out.1
  have k60 := k6 0; have k61 := k6 1; have k62 := k6 2; have k63 := k6 3; have k64 := k6 4
  obtain ⟨y0, y1, y2, y3, y4, y5⟩ := Bb6.out
  clear Ba6 Ra6 Qa6
  go_wp2_with fail
  obtain ⟨z, z0, z1, z2, z3, z4⟩ := Rb6.out.set (.int .i64 op) (.int .i64 ((ra : Nat) : Int)) (.int .i64 ((rb : Nat) : Int)) (.int .i64 (0 : Int)) (.int .i64 n)
  refine bodyPost_ret (v := instV op ((ra : Nat) : Int) ((rb : Nat) : Int) 0 n) ?_ rfl ⟨rfl, ?_⟩
  · simp [results, Tryz.results134, go_sem, instV, z0, z1, z2, z3, z4]
  · exact Below.setCell (Below.setCell (Below.setCell (Below.setCell (Below.setCell Qb6.out (Nat.le_refl _) _) (Nat.le_refl _) _) (Nat.le_refl _) _) (Nat.le_refl _) _) (Nat.le_refl _) _
theorem read3 (op s : Int) (b x : Nat) (hb : b < 4294967296) (hx : x < 4294967296) (hk : kindZ b = 3) (hs : shiftZ b = s) (hi : Imm x s 3) : ReadP op 3 s b x := by
  intro w
  have h1 := fun w => kindOf_any b w hb
  have h2 := fun w => shift_any b w hb
  rw [hk] at h1
  rw [hs] at h2
  have H1 := Lib.hid h1
  have H2 := Lib.hid h2
  obtain ⟨n, hn⟩ : ∃ v, immZ 3 s x = v := ⟨_, rfl⟩
  unfold Imm at hi
  rw [hn] at hi ⊢
  have HI := Lib.hid hi
  have hh := fun w => has_any 3 w
  rw [hasZ_3] at hh
  have HH := Lib.hid hh
  rw [rdN_3, rs1N_3, rs2N_3]
  have fra := f_at x 7 5 128 32 hx (by decide) (by decide) rfl rfl
  obtain ⟨ra, era⟩ : ∃ v, x / 128 % 32 = v := ⟨_, rfl⟩
  have lra : ra < 32 := by omega
  unfold FAt at fra
  rw [era] at fra ⊢
  have Fra := Lib.hid fra
  clear fra era
  have frb := f_at x 15 5 32768 32 hx (by decide) (by decide) rfl rfl
  obtain ⟨rb, erb⟩ : ∃ v, x / 32768 % 32 = v := ⟨_, rfl⟩
  have lrb : rb < 32 := by omega
  unfold FAt at frb
  rw [erb] at frb ⊢
  have Frb := Lib.hid frb
  clear frb erb
  clear h1 h2 hk hs hi hn hh hb hx
  go_enter Tryz.func134, Tryz.ntmps134
  go_wp2_with fail
  refine (H1.out _).mono ?_; rintro e w1 ⟨rfl, q1⟩
  have R1 := Lib.hid ((Box5.new w (.int .i64 0) (.int .i64 0) (.int .i64 0) (.int .i64 0) (.int .i64 0) 61).on q1); have Q1 := Lib.hid (bTrans (bAlloc (Below.refl _ _) _) q1); clear q1
  go_wp2_with fail
  refine (H2.out _).mono ?_; rintro e w2 ⟨rfl, q2⟩; have R2 := Lib.hid (R1.out.on q2); have Q2 := Lib.hid (bTrans Q1.out q2); clear q2 R1 Q1
  go_wp2_with fail
  refine (HI.out _).mono ?_; rintro e w3 ⟨rfl, q3⟩; have R3 := Lib.hid (R2.out.on q3); have Q3 := Lib.hid (bTrans Q2.out q3); clear q3 R2 Q2
  go_wp2_with fail
  refine (HH.out _).mono ?_; rintro e w4 ⟨rfl, rfl⟩
  have B4 := Lib.hid (Box5.new w3 (.int .i64 op) (.int .i64 0) (.int .i64 0) (.int .i64 0) (.int .i64 n) 61)
  have R4 := Lib.hid (R3.out.on (bAlloc (Below.refl _ _) (.cells #[.int .i64 op, .int .i64 0, .int .i64 0, .int .i64 0, .int .i64 n] 61)))
  have NE := Lib.hid (Nat.ne_of_lt R3.out.lt)
  have LW := Lib.hid (Nat.le_of_lt R3.out.lt)
  have Q4 := Lib.hid (bAlloc Q3.out (.cells #[.int .i64 op, .int .i64 0, .int .i64 0, .int .i64 0, .int .i64 n] 61))
  clear R3 Q3
  go_wp2_with fail
  refine (Fra.out _).mono ?_; rintro e w5 ⟨rfl, q5⟩
  have Ba5 := Lib.hid (B4.out.on q5); have Ra5 := Lib.hid (R4.out.on q5); have Qa5 := Lib.hid (bTrans Q4.out q5); clear q5 B4 R4 Q4
  have Bb5 := Lib.hid (Ba5.out.set1 (.int .i64 ra)); have Rb5 := Lib.hid (Ra5.out.other _ 1 (.int .i64 ra) NE.out); have Qb5 := Lib.hid (Below.setCell (p := ⟨w3.heap.size, 1, none⟩) Qa5.out LW.out (.int .i64 ra))
  obtain ⟨g5, c50, c51, c52, c53, c54⟩ := Ba5.out
  have g5' := g5 1
  clear Ba5 Ra5 Qa5
  go_wp2_with fail
  clear g5 g5' c50 c51 c52 c53 c54
  refine (Frb.out _).mono ?_; rintro e w6 ⟨rfl, q6⟩
  have Ba6 := Lib.hid (Bb5.out.on q6); have Ra6 := Lib.hid (Rb5.out.on q6); have Qa6 := Lib.hid (bTrans Qb5.out q6); clear q6 Bb5 Rb5 Qb5
  have Bb6 := Lib.hid (Ba6.out.set2 (.int .i64 rb)); have Rb6 := Lib.hid (Ra6.out.other _ 2 (.int .i64 rb) NE.out); have Qb6 := Lib.hid (Below.setCell (p := ⟨w3.heap.size, 2, none⟩) Qa6.out LW.out (.int .i64 rb))
  obtain ⟨g6, c60, c61, c62, c63, c64⟩ := Ba6.out
  have g6' := g6 2
  obtain ⟨k6, d60, d61, d62, d63, d64⟩ := Rb6.out
  have k6 := Ra6.out.1
  have k60 := k6 0; have k61 := k6 1; have k62 := k6 2; have k63 := k6 3; have k64 := k6 4
  obtain ⟨y0, y1, y2, y3, y4, y5⟩ := Bb6.out
  clear Ba6 Ra6 Qa6
  go_wp2_with fail
  obtain ⟨z, z0, z1, z2, z3, z4⟩ := Rb6.out.set (.int .i64 op) (.int .i64 ((ra : Nat) : Int)) (.int .i64 ((rb : Nat) : Int)) (.int .i64 (0 : Int)) (.int .i64 n)
  refine bodyPost_ret (v := instV op ((ra : Nat) : Int) ((rb : Nat) : Int) 0 n) ?_ rfl ⟨rfl, ?_⟩
  · simp [results, Tryz.results134, go_sem, instV, z0, z1, z2, z3, z4]
  · exact Below.setCell (Below.setCell (Below.setCell (Below.setCell (Below.setCell Qb6.out (Nat.le_refl _) _) (Nat.le_refl _) _) (Nat.le_refl _) _) (Nat.le_refl _) _) (Nat.le_refl _) _
theorem read8 (op s : Int) (b x : Nat) (hb : b < 4294967296) (hx : x < 4294967296) (hk : kindZ b = 8) (hs : shiftZ b = s) (hi : Imm x s 8) : ReadP op 8 s b x := by
  intro w
  have h1 := fun w => kindOf_any b w hb
  have h2 := fun w => shift_any b w hb
  rw [hk] at h1
  rw [hs] at h2
  have H1 := Lib.hid h1
  have H2 := Lib.hid h2
  obtain ⟨n, hn⟩ : ∃ v, immZ 8 s x = v := ⟨_, rfl⟩
  unfold Imm at hi
  rw [hn] at hi ⊢
  have HI := Lib.hid hi
  have hh := fun w => has_any 8 w
  rw [hasZ_8] at hh
  have HH := Lib.hid hh
  rw [rdN_8, rs1N_8, rs2N_8]
  have fra := f_at x 7 5 128 32 hx (by decide) (by decide) rfl rfl
  obtain ⟨ra, era⟩ : ∃ v, x / 128 % 32 = v := ⟨_, rfl⟩
  have lra : ra < 32 := by omega
  unfold FAt at fra
  rw [era] at fra ⊢
  have Fra := Lib.hid fra
  clear fra era
  have frb := f_at x 15 5 32768 32 hx (by decide) (by decide) rfl rfl
  obtain ⟨rb, erb⟩ : ∃ v, x / 32768 % 32 = v := ⟨_, rfl⟩
  have lrb : rb < 32 := by omega
  unfold FAt at frb
  rw [erb] at frb ⊢
  have Frb := Lib.hid frb
  clear frb erb
  clear h1 h2 hk hs hi hn hh hb hx
  go_enter Tryz.func134, Tryz.ntmps134
  go_wp2_with fail
  refine (H1.out _).mono ?_; rintro e w1 ⟨rfl, q1⟩
  have R1 := Lib.hid ((Box5.new w (.int .i64 0) (.int .i64 0) (.int .i64 0) (.int .i64 0) (.int .i64 0) 61).on q1); have Q1 := Lib.hid (bTrans (bAlloc (Below.refl _ _) _) q1); clear q1
  go_wp2_with fail
  refine (H2.out _).mono ?_; rintro e w2 ⟨rfl, q2⟩; have R2 := Lib.hid (R1.out.on q2); have Q2 := Lib.hid (bTrans Q1.out q2); clear q2 R1 Q1
  go_wp2_with fail
  refine (HI.out _).mono ?_; rintro e w3 ⟨rfl, q3⟩; have R3 := Lib.hid (R2.out.on q3); have Q3 := Lib.hid (bTrans Q2.out q3); clear q3 R2 Q2
  go_wp2_with fail
  refine (HH.out _).mono ?_; rintro e w4 ⟨rfl, rfl⟩
  have B4 := Lib.hid (Box5.new w3 (.int .i64 op) (.int .i64 0) (.int .i64 0) (.int .i64 0) (.int .i64 n) 61)
  have R4 := Lib.hid (R3.out.on (bAlloc (Below.refl _ _) (.cells #[.int .i64 op, .int .i64 0, .int .i64 0, .int .i64 0, .int .i64 n] 61)))
  have NE := Lib.hid (Nat.ne_of_lt R3.out.lt)
  have LW := Lib.hid (Nat.le_of_lt R3.out.lt)
  have Q4 := Lib.hid (bAlloc Q3.out (.cells #[.int .i64 op, .int .i64 0, .int .i64 0, .int .i64 0, .int .i64 n] 61))
  clear R3 Q3
  go_wp2_with fail
  refine (Fra.out _).mono ?_; rintro e w5 ⟨rfl, q5⟩
  have Ba5 := Lib.hid (B4.out.on q5); have Ra5 := Lib.hid (R4.out.on q5); have Qa5 := Lib.hid (bTrans Q4.out q5); clear q5 B4 R4 Q4
  have Bb5 := Lib.hid (Ba5.out.set1 (.int .i64 ra)); have Rb5 := Lib.hid (Ra5.out.other _ 1 (.int .i64 ra) NE.out); have Qb5 := Lib.hid (Below.setCell (p := ⟨w3.heap.size, 1, none⟩) Qa5.out LW.out (.int .i64 ra))
  obtain ⟨g5, c50, c51, c52, c53, c54⟩ := Ba5.out
  have g5' := g5 1
  clear Ba5 Ra5 Qa5
  go_wp2_with fail
  clear g5 g5' c50 c51 c52 c53 c54
  refine (Frb.out _).mono ?_; rintro e w6 ⟨rfl, q6⟩
  have Ba6 := Lib.hid (Bb5.out.on q6); have Ra6 := Lib.hid (Rb5.out.on q6); have Qa6 := Lib.hid (bTrans Qb5.out q6); clear q6 Bb5 Rb5 Qb5
  have Bb6 := Lib.hid (Ba6.out.set2 (.int .i64 rb)); have Rb6 := Lib.hid (Ra6.out.other _ 2 (.int .i64 rb) NE.out); have Qb6 := Lib.hid (Below.setCell (p := ⟨w3.heap.size, 2, none⟩) Qa6.out LW.out (.int .i64 rb))
  obtain ⟨g6, c60, c61, c62, c63, c64⟩ := Ba6.out
  have g6' := g6 2
  obtain ⟨k6, d60, d61, d62, d63, d64⟩ := Rb6.out
  have k6 := Ra6.out.1
  have k60 := k6 0; have k61 := k6 1; have k62 := k6 2; have k63 := k6 3; have k64 := k6 4
  obtain ⟨y0, y1, y2, y3, y4, y5⟩ := Bb6.out
  clear Ba6 Ra6 Qa6
  go_wp2_with fail
  obtain ⟨z, z0, z1, z2, z3, z4⟩ := Rb6.out.set (.int .i64 op) (.int .i64 ((ra : Nat) : Int)) (.int .i64 ((rb : Nat) : Int)) (.int .i64 (0 : Int)) (.int .i64 n)
  refine bodyPost_ret (v := instV op ((ra : Nat) : Int) ((rb : Nat) : Int) 0 n) ?_ rfl ⟨rfl, ?_⟩
  · simp [results, Tryz.results134, go_sem, instV, z0, z1, z2, z3, z4]
  · exact Below.setCell (Below.setCell (Below.setCell (Below.setCell (Below.setCell Qb6.out (Nat.le_refl _) _) (Nat.le_refl _) _) (Nat.le_refl _) _) (Nat.le_refl _) _) (Nat.le_refl _) _
theorem read4 (op s : Int) (b x : Nat) (hb : b < 4294967296) (hx : x < 4294967296) (hk : kindZ b = 4) (hs : shiftZ b = s) (hi : Imm x s 4) : ReadP op 4 s b x := by
  intro w
  have h1 := fun w => kindOf_any b w hb
  have h2 := fun w => shift_any b w hb
  rw [hk] at h1
  rw [hs] at h2
  have H1 := Lib.hid h1
  have H2 := Lib.hid h2
  obtain ⟨n, hn⟩ : ∃ v, immZ 4 s x = v := ⟨_, rfl⟩
  unfold Imm at hi
  rw [hn] at hi ⊢
  have HI := Lib.hid hi
  have hh := fun w => has_any 4 w
  rw [hasZ_4] at hh
  have HH := Lib.hid hh
  rw [rdN_4, rs1N_4, rs2N_4]
  have frb := f_at x 15 5 32768 32 hx (by decide) (by decide) rfl rfl
  obtain ⟨rb, erb⟩ : ∃ v, x / 32768 % 32 = v := ⟨_, rfl⟩
  have lrb : rb < 32 := by omega
  unfold FAt at frb
  rw [erb] at frb ⊢
  have Frb := Lib.hid frb
  clear frb erb
  have frc := f_at x 20 5 1048576 32 hx (by decide) (by decide) rfl rfl
  obtain ⟨rc, erc⟩ : ∃ v, x / 1048576 % 32 = v := ⟨_, rfl⟩
  have lrc : rc < 32 := by omega
  unfold FAt at frc
  rw [erc] at frc ⊢
  have Frc := Lib.hid frc
  clear frc erc
  clear h1 h2 hk hs hi hn hh hb hx
  go_enter Tryz.func134, Tryz.ntmps134
  go_wp2_with fail
  refine (H1.out _).mono ?_; rintro e w1 ⟨rfl, q1⟩
  have R1 := Lib.hid ((Box5.new w (.int .i64 0) (.int .i64 0) (.int .i64 0) (.int .i64 0) (.int .i64 0) 61).on q1); have Q1 := Lib.hid (bTrans (bAlloc (Below.refl _ _) _) q1); clear q1
  go_wp2_with fail
  refine (H2.out _).mono ?_; rintro e w2 ⟨rfl, q2⟩; have R2 := Lib.hid (R1.out.on q2); have Q2 := Lib.hid (bTrans Q1.out q2); clear q2 R1 Q1
  go_wp2_with fail
  refine (HI.out _).mono ?_; rintro e w3 ⟨rfl, q3⟩; have R3 := Lib.hid (R2.out.on q3); have Q3 := Lib.hid (bTrans Q2.out q3); clear q3 R2 Q2
  go_wp2_with fail
  refine (HH.out _).mono ?_; rintro e w4 ⟨rfl, rfl⟩
  have B4 := Lib.hid (Box5.new w3 (.int .i64 op) (.int .i64 0) (.int .i64 0) (.int .i64 0) (.int .i64 n) 61)
  have R4 := Lib.hid (R3.out.on (bAlloc (Below.refl _ _) (.cells #[.int .i64 op, .int .i64 0, .int .i64 0, .int .i64 0, .int .i64 n] 61)))
  have NE := Lib.hid (Nat.ne_of_lt R3.out.lt)
  have LW := Lib.hid (Nat.le_of_lt R3.out.lt)
  have Q4 := Lib.hid (bAlloc Q3.out (.cells #[.int .i64 op, .int .i64 0, .int .i64 0, .int .i64 0, .int .i64 n] 61))
  clear R3 Q3
  go_wp2_with fail
  refine (Frb.out _).mono ?_; rintro e w5 ⟨rfl, q5⟩
  have Ba5 := Lib.hid (B4.out.on q5); have Ra5 := Lib.hid (R4.out.on q5); have Qa5 := Lib.hid (bTrans Q4.out q5); clear q5 B4 R4 Q4
  have Bb5 := Lib.hid (Ba5.out.set2 (.int .i64 rb)); have Rb5 := Lib.hid (Ra5.out.other _ 2 (.int .i64 rb) NE.out); have Qb5 := Lib.hid (Below.setCell (p := ⟨w3.heap.size, 2, none⟩) Qa5.out LW.out (.int .i64 rb))
  obtain ⟨g5, c50, c51, c52, c53, c54⟩ := Ba5.out
  have g5' := g5 2
  clear Ba5 Ra5 Qa5
  go_wp2_with fail
  clear g5 g5' c50 c51 c52 c53 c54
  refine (Frc.out _).mono ?_; rintro e w6 ⟨rfl, q6⟩
  have Ba6 := Lib.hid (Bb5.out.on q6); have Ra6 := Lib.hid (Rb5.out.on q6); have Qa6 := Lib.hid (bTrans Qb5.out q6); clear q6 Bb5 Rb5 Qb5
  have Bb6 := Lib.hid (Ba6.out.set3 (.int .i64 rc)); have Rb6 := Lib.hid (Ra6.out.other _ 3 (.int .i64 rc) NE.out); have Qb6 := Lib.hid (Below.setCell (p := ⟨w3.heap.size, 3, none⟩) Qa6.out LW.out (.int .i64 rc))
  obtain ⟨g6, c60, c61, c62, c63, c64⟩ := Ba6.out
  have g6' := g6 3
  obtain ⟨k6, d60, d61, d62, d63, d64⟩ := Rb6.out
  have k6 := Ra6.out.1
  have k60 := k6 0; have k61 := k6 1; have k62 := k6 2; have k63 := k6 3; have k64 := k6 4
  obtain ⟨y0, y1, y2, y3, y4, y5⟩ := Bb6.out
  clear Ba6 Ra6 Qa6
  go_wp2_with fail
  obtain ⟨z, z0, z1, z2, z3, z4⟩ := Rb6.out.set (.int .i64 op) (.int .i64 (0 : Int)) (.int .i64 ((rb : Nat) : Int)) (.int .i64 ((rc : Nat) : Int)) (.int .i64 n)
  refine bodyPost_ret (v := instV op 0 ((rb : Nat) : Int) ((rc : Nat) : Int) n) ?_ rfl ⟨rfl, ?_⟩
  · simp [results, Tryz.results134, go_sem, instV, z0, z1, z2, z3, z4]
  · exact Below.setCell (Below.setCell (Below.setCell (Below.setCell (Below.setCell Qb6.out (Nat.le_refl _) _) (Nat.le_refl _) _) (Nat.le_refl _) _) (Nat.le_refl _) _) (Nat.le_refl _) _
theorem read5 (op s : Int) (b x : Nat) (hb : b < 4294967296) (hx : x < 4294967296) (hk : kindZ b = 5) (hs : shiftZ b = s) (hi : Imm x s 5) : ReadP op 5 s b x := by
  intro w
  have h1 := fun w => kindOf_any b w hb
  have h2 := fun w => shift_any b w hb
  rw [hk] at h1
  rw [hs] at h2
  have H1 := Lib.hid h1
  have H2 := Lib.hid h2
  obtain ⟨n, hn⟩ : ∃ v, immZ 5 s x = v := ⟨_, rfl⟩
  unfold Imm at hi
  rw [hn] at hi ⊢
  have HI := Lib.hid hi
  have hh := fun w => has_any 5 w
  rw [hasZ_5] at hh
  have HH := Lib.hid hh
  rw [rdN_5, rs1N_5, rs2N_5]
  have frb := f_at x 15 5 32768 32 hx (by decide) (by decide) rfl rfl
  obtain ⟨rb, erb⟩ : ∃ v, x / 32768 % 32 = v := ⟨_, rfl⟩
  have lrb : rb < 32 := by omega
  unfold FAt at frb
  rw [erb] at frb ⊢
  have Frb := Lib.hid frb
  clear frb erb
  have frc := f_at x 20 5 1048576 32 hx (by decide) (by decide) rfl rfl
  obtain ⟨rc, erc⟩ : ∃ v, x / 1048576 % 32 = v := ⟨_, rfl⟩
  have lrc : rc < 32 := by omega
  unfold FAt at frc
  rw [erc] at frc ⊢
  have Frc := Lib.hid frc
  clear frc erc
  clear h1 h2 hk hs hi hn hh hb hx
  go_enter Tryz.func134, Tryz.ntmps134
  go_wp2_with fail
  refine (H1.out _).mono ?_; rintro e w1 ⟨rfl, q1⟩
  have R1 := Lib.hid ((Box5.new w (.int .i64 0) (.int .i64 0) (.int .i64 0) (.int .i64 0) (.int .i64 0) 61).on q1); have Q1 := Lib.hid (bTrans (bAlloc (Below.refl _ _) _) q1); clear q1
  go_wp2_with fail
  refine (H2.out _).mono ?_; rintro e w2 ⟨rfl, q2⟩; have R2 := Lib.hid (R1.out.on q2); have Q2 := Lib.hid (bTrans Q1.out q2); clear q2 R1 Q1
  go_wp2_with fail
  refine (HI.out _).mono ?_; rintro e w3 ⟨rfl, q3⟩; have R3 := Lib.hid (R2.out.on q3); have Q3 := Lib.hid (bTrans Q2.out q3); clear q3 R2 Q2
  go_wp2_with fail
  refine (HH.out _).mono ?_; rintro e w4 ⟨rfl, rfl⟩
  have B4 := Lib.hid (Box5.new w3 (.int .i64 op) (.int .i64 0) (.int .i64 0) (.int .i64 0) (.int .i64 n) 61)
  have R4 := Lib.hid (R3.out.on (bAlloc (Below.refl _ _) (.cells #[.int .i64 op, .int .i64 0, .int .i64 0, .int .i64 0, .int .i64 n] 61)))
  have NE := Lib.hid (Nat.ne_of_lt R3.out.lt)
  have LW := Lib.hid (Nat.le_of_lt R3.out.lt)
  have Q4 := Lib.hid (bAlloc Q3.out (.cells #[.int .i64 op, .int .i64 0, .int .i64 0, .int .i64 0, .int .i64 n] 61))
  clear R3 Q3
  go_wp2_with fail
  refine (Frb.out _).mono ?_; rintro e w5 ⟨rfl, q5⟩
  have Ba5 := Lib.hid (B4.out.on q5); have Ra5 := Lib.hid (R4.out.on q5); have Qa5 := Lib.hid (bTrans Q4.out q5); clear q5 B4 R4 Q4
  have Bb5 := Lib.hid (Ba5.out.set2 (.int .i64 rb)); have Rb5 := Lib.hid (Ra5.out.other _ 2 (.int .i64 rb) NE.out); have Qb5 := Lib.hid (Below.setCell (p := ⟨w3.heap.size, 2, none⟩) Qa5.out LW.out (.int .i64 rb))
  obtain ⟨g5, c50, c51, c52, c53, c54⟩ := Ba5.out
  have g5' := g5 2
  clear Ba5 Ra5 Qa5
  go_wp2_with fail
  clear g5 g5' c50 c51 c52 c53 c54
  refine (Frc.out _).mono ?_; rintro e w6 ⟨rfl, q6⟩
  have Ba6 := Lib.hid (Bb5.out.on q6); have Ra6 := Lib.hid (Rb5.out.on q6); have Qa6 := Lib.hid (bTrans Qb5.out q6); clear q6 Bb5 Rb5 Qb5
  have Bb6 := Lib.hid (Ba6.out.set3 (.int .i64 rc)); have Rb6 := Lib.hid (Ra6.out.other _ 3 (.int .i64 rc) NE.out); have Qb6 := Lib.hid (Below.setCell (p := ⟨w3.heap.size, 3, none⟩) Qa6.out LW.out (.int .i64 rc))
  obtain ⟨g6, c60, c61, c62, c63, c64⟩ := Ba6.out
  have g6' := g6 3
  obtain ⟨k6, d60, d61, d62, d63, d64⟩ := Rb6.out
  have k6 := Ra6.out.1
  have k60 := k6 0; have k61 := k6 1; have k62 := k6 2; have k63 := k6 3; have k64 := k6 4
  obtain ⟨y0, y1, y2, y3, y4, y5⟩ := Bb6.out
  clear Ba6 Ra6 Qa6
  go_wp2_with fail
  obtain ⟨z, z0, z1, z2, z3, z4⟩ := Rb6.out.set (.int .i64 op) (.int .i64 (0 : Int)) (.int .i64 ((rb : Nat) : Int)) (.int .i64 ((rc : Nat) : Int)) (.int .i64 n)
  refine bodyPost_ret (v := instV op 0 ((rb : Nat) : Int) ((rc : Nat) : Int) n) ?_ rfl ⟨rfl, ?_⟩
  · simp [results, Tryz.results134, go_sem, instV, z0, z1, z2, z3, z4]
  · exact Below.setCell (Below.setCell (Below.setCell (Below.setCell (Below.setCell Qb6.out (Nat.le_refl _) _) (Nat.le_refl _) _) (Nat.le_refl _) _) (Nat.le_refl _) _) (Nat.le_refl _) _
theorem read10 (op s : Int) (b x : Nat) (hb : b < 4294967296) (hx : x < 4294967296) (hk : kindZ b = 10) (hs : shiftZ b = s) (hi : Imm x s 10) : ReadP op 10 s b x := by
  intro w
  have h1 := fun w => kindOf_any b w hb
  have h2 := fun w => shift_any b w hb
  rw [hk] at h1
  rw [hs] at h2
  have H1 := Lib.hid h1
  have H2 := Lib.hid h2
  obtain ⟨n, hn⟩ : ∃ v, immZ 10 s x = v := ⟨_, rfl⟩
  unfold Imm at hi
  rw [hn] at hi ⊢
  have HI := Lib.hid hi
  have hh := fun w => has_any 10 w
  rw [hasZ_10] at hh
  have HH := Lib.hid hh
  rw [rdN_10, rs1N_10, rs2N_10]
  have frb := f_at x 15 5 32768 32 hx (by decide) (by decide) rfl rfl
  obtain ⟨rb, erb⟩ : ∃ v, x / 32768 % 32 = v := ⟨_, rfl⟩
  have lrb : rb < 32 := by omega
  unfold FAt at frb
  rw [erb] at frb ⊢
  have Frb := Lib.hid frb
  clear frb erb
  have frc := f_at x 20 5 1048576 32 hx (by decide) (by decide) rfl rfl
  obtain ⟨rc, erc⟩ : ∃ v, x / 1048576 % 32 = v := ⟨_, rfl⟩
  have lrc : rc < 32 := by omega
  unfold FAt at frc
  rw [erc] at frc ⊢
  have Frc := Lib.hid frc
  clear frc erc
  clear h1 h2 hk hs hi hn hh hb hx
  go_enter Tryz.func134, Tryz.ntmps134
  go_wp2_with fail
  refine (H1.out _).mono ?_; rintro e w1 ⟨rfl, q1⟩
  have R1 := Lib.hid ((Box5.new w (.int .i64 0) (.int .i64 0) (.int .i64 0) (.int .i64 0) (.int .i64 0) 61).on q1); have Q1 := Lib.hid (bTrans (bAlloc (Below.refl _ _) _) q1); clear q1
  go_wp2_with fail
  refine (H2.out _).mono ?_; rintro e w2 ⟨rfl, q2⟩; have R2 := Lib.hid (R1.out.on q2); have Q2 := Lib.hid (bTrans Q1.out q2); clear q2 R1 Q1
  go_wp2_with fail
  refine (HI.out _).mono ?_; rintro e w3 ⟨rfl, q3⟩; have R3 := Lib.hid (R2.out.on q3); have Q3 := Lib.hid (bTrans Q2.out q3); clear q3 R2 Q2
  go_wp2_with fail
  refine (HH.out _).mono ?_; rintro e w4 ⟨rfl, rfl⟩
  have B4 := Lib.hid (Box5.new w3 (.int .i64 op) (.int .i64 0) (.int .i64 0) (.int .i64 0) (.int .i64 n) 61)
  have R4 := Lib.hid (R3.out.on (bAlloc (Below.refl _ _) (.cells #[.int .i64 op, .int .i64 0, .int .i64 0, .int .i64 0, .int .i64 n] 61)))
  have NE := Lib.hid (Nat.ne_of_lt R3.out.lt)
  have LW := Lib.hid (Nat.le_of_lt R3.out.lt)
  have Q4 := Lib.hid (bAlloc Q3.out (.cells #[.int .i64 op, .int .i64 0, .int .i64 0, .int .i64 0, .int .i64 n] 61))
  clear R3 Q3
  go_wp2_with fail
  refine (Frb.out _).mono ?_; rintro e w5 ⟨rfl, q5⟩
  have Ba5 := Lib.hid (B4.out.on q5); have Ra5 := Lib.hid (R4.out.on q5); have Qa5 := Lib.hid (bTrans Q4.out q5); clear q5 B4 R4 Q4
  have Bb5 := Lib.hid (Ba5.out.set2 (.int .i64 rb)); have Rb5 := Lib.hid (Ra5.out.other _ 2 (.int .i64 rb) NE.out); have Qb5 := Lib.hid (Below.setCell (p := ⟨w3.heap.size, 2, none⟩) Qa5.out LW.out (.int .i64 rb))
  obtain ⟨g5, c50, c51, c52, c53, c54⟩ := Ba5.out
  have g5' := g5 2
  clear Ba5 Ra5 Qa5
  go_wp2_with fail
  clear g5 g5' c50 c51 c52 c53 c54
  refine (Frc.out _).mono ?_; rintro e w6 ⟨rfl, q6⟩
  have Ba6 := Lib.hid (Bb5.out.on q6); have Ra6 := Lib.hid (Rb5.out.on q6); have Qa6 := Lib.hid (bTrans Qb5.out q6); clear q6 Bb5 Rb5 Qb5
  have Bb6 := Lib.hid (Ba6.out.set3 (.int .i64 rc)); have Rb6 := Lib.hid (Ra6.out.other _ 3 (.int .i64 rc) NE.out); have Qb6 := Lib.hid (Below.setCell (p := ⟨w3.heap.size, 3, none⟩) Qa6.out LW.out (.int .i64 rc))
  obtain ⟨g6, c60, c61, c62, c63, c64⟩ := Ba6.out
  have g6' := g6 3
  obtain ⟨k6, d60, d61, d62, d63, d64⟩ := Rb6.out
  have k6 := Ra6.out.1
  have k60 := k6 0; have k61 := k6 1; have k62 := k6 2; have k63 := k6 3; have k64 := k6 4
  obtain ⟨y0, y1, y2, y3, y4, y5⟩ := Bb6.out
  clear Ba6 Ra6 Qa6
  go_wp2_with fail
  obtain ⟨z, z0, z1, z2, z3, z4⟩ := Rb6.out.set (.int .i64 op) (.int .i64 (0 : Int)) (.int .i64 ((rb : Nat) : Int)) (.int .i64 ((rc : Nat) : Int)) (.int .i64 n)
  refine bodyPost_ret (v := instV op 0 ((rb : Nat) : Int) ((rc : Nat) : Int) n) ?_ rfl ⟨rfl, ?_⟩
  · simp [results, Tryz.results134, go_sem, instV, z0, z1, z2, z3, z4]
  · exact Below.setCell (Below.setCell (Below.setCell (Below.setCell (Below.setCell Qb6.out (Nat.le_refl _) _) (Nat.le_refl _) _) (Nat.le_refl _) _) (Nat.le_refl _) _) (Nat.le_refl _) _
theorem read6 (op s : Int) (b x : Nat) (hb : b < 4294967296) (hx : x < 4294967296) (hk : kindZ b = 6) (hs : shiftZ b = s) (hi : Imm x s 6) : ReadP op 6 s b x := by
  intro w
  have h1 := fun w => kindOf_any b w hb
  have h2 := fun w => shift_any b w hb
  rw [hk] at h1
  rw [hs] at h2
  have H1 := Lib.hid h1
  have H2 := Lib.hid h2
  obtain ⟨n, hn⟩ : ∃ v, immZ 6 s x = v := ⟨_, rfl⟩
  unfold Imm at hi
  rw [hn] at hi ⊢
  have HI := Lib.hid hi
  have hh := fun w => has_any 6 w
  rw [hasZ_6] at hh
  have HH := Lib.hid hh
  rw [rdN_6, rs1N_6, rs2N_6]
  have fra := f_at x 7 5 128 32 hx (by decide) (by decide) rfl rfl
  obtain ⟨ra, era⟩ : ∃ v, x / 128 % 32 = v := ⟨_, rfl⟩
  have lra : ra < 32 := by omega
  unfold FAt at fra
  rw [era] at fra ⊢
  have Fra := Lib.hid fra
  clear fra era
  clear h1 h2 hk hs hi hn hh hb hx
  go_enter Tryz.func134, Tryz.ntmps134
  go_wp2_with fail
  refine (H1.out _).mono ?_; rintro e w1 ⟨rfl, q1⟩
  have R1 := Lib.hid ((Box5.new w (.int .i64 0) (.int .i64 0) (.int .i64 0) (.int .i64 0) (.int .i64 0) 61).on q1); have Q1 := Lib.hid (bTrans (bAlloc (Below.refl _ _) _) q1); clear q1
  go_wp2_with fail
  refine (H2.out _).mono ?_; rintro e w2 ⟨rfl, q2⟩; have R2 := Lib.hid (R1.out.on q2); have Q2 := Lib.hid (bTrans Q1.out q2); clear q2 R1 Q1
  go_wp2_with fail
  refine (HI.out _).mono ?_; rintro e w3 ⟨rfl, q3⟩; have R3 := Lib.hid (R2.out.on q3); have Q3 := Lib.hid (bTrans Q2.out q3); clear q3 R2 Q2
  go_wp2_with fail
  refine (HH.out _).mono ?_; rintro e w4 ⟨rfl, rfl⟩
  have B4 := Lib.hid (Box5.new w3 (.int .i64 op) (.int .i64 0) (.int .i64 0) (.int .i64 0) (.int .i64 n) 61)
  have R4 := Lib.hid (R3.out.on (bAlloc (Below.refl _ _) (.cells #[.int .i64 op, .int .i64 0, .int .i64 0, .int .i64 0, .int .i64 n] 61)))
  have NE := Lib.hid (Nat.ne_of_lt R3.out.lt)
  have LW := Lib.hid (Nat.le_of_lt R3.out.lt)
  have Q4 := Lib.hid (bAlloc Q3.out (.cells #[.int .i64 op, .int .i64 0, .int .i64 0, .int .i64 0, .int .i64 n] 61))
  clear R3 Q3
  go_wp2_with fail
  refine (Fra.out _).mono ?_; rintro e w5 ⟨rfl, q5⟩
  have Ba5 := Lib.hid (B4.out.on q5); have Ra5 := Lib.hid (R4.out.on q5); have Qa5 := Lib.hid (bTrans Q4.out q5); clear q5 B4 R4 Q4
  have Bb5 := Lib.hid (Ba5.out.set1 (.int .i64 ra)); have Rb5 := Lib.hid (Ra5.out.other _ 1 (.int .i64 ra) NE.out); have Qb5 := Lib.hid (Below.setCell (p := ⟨w3.heap.size, 1, none⟩) Qa5.out LW.out (.int .i64 ra))
  obtain ⟨g5, c50, c51, c52, c53, c54⟩ := Ba5.out
  have g5' := g5 1
  obtain ⟨k5, d50, d51, d52, d53, d54⟩ := Rb5.out
  have k5 := Ra5.out.1
  have k50 := k5 0; have k51 := k5 1; have k52 := k5 2; have k53 := k5 3; have k54 := k5 4
  obtain ⟨y0, y1, y2, y3, y4, y5⟩ := Bb5.out
  clear Ba5 Ra5 Qa5
  go_wp2_with fail
  obtain ⟨z, z0, z1, z2, z3, z4⟩ := Rb5.out.set (.int .i64 op) (.int .i64 ((ra : Nat) : Int)) (.int .i64 (0 : Int)) (.int .i64 (0 : Int)) (.int .i64 n)
  refine bodyPost_ret (v := instV op ((ra : Nat) : Int) 0 0 n) ?_ rfl ⟨rfl, ?_⟩
  · simp [results, Tryz.results134, go_sem, instV, z0, z1, z2, z3, z4]
  · exact Below.setCell (Below.setCell (Below.setCell (Below.setCell (Below.setCell Qb5.out (Nat.le_refl _) _) (Nat.le_refl _) _) (Nat.le_refl _) _) (Nat.le_refl _) _) (Nat.le_refl _) _
theorem read7 (op s : Int) (b x : Nat) (hb : b < 4294967296) (hx : x < 4294967296) (hk : kindZ b = 7) (hs : shiftZ b = s) (hi : Imm x s 7) : ReadP op 7 s b x := by
  intro w
  have h1 := fun w => kindOf_any b w hb
  have h2 := fun w => shift_any b w hb
  rw [hk] at h1
  rw [hs] at h2
  have H1 := Lib.hid h1
  have H2 := Lib.hid h2
  obtain ⟨n, hn⟩ : ∃ v, immZ 7 s x = v := ⟨_, rfl⟩
  unfold Imm at hi
  rw [hn] at hi ⊢
  have HI := Lib.hid hi
  have hh := fun w => has_any 7 w
  rw [hasZ_7] at hh
  have HH := Lib.hid hh
  rw [rdN_7, rs1N_7, rs2N_7]
  have fra := f_at x 7 5 128 32 hx (by decide) (by decide) rfl rfl
  obtain ⟨ra, era⟩ : ∃ v, x / 128 % 32 = v := ⟨_, rfl⟩
  have lra : ra < 32 := by omega
  unfold FAt at fra
  rw [era] at fra ⊢
  have Fra := Lib.hid fra
  clear fra era
  clear h1 h2 hk hs hi hn hh hb hx
  go_enter Tryz.func134, Tryz.ntmps134
  go_wp2_with fail
  refine (H1.out _).mono ?_; rintro e w1 ⟨rfl, q1⟩
  have R1 := Lib.hid ((Box5.new w (.int .i64 0) (.int .i64 0) (.int .i64 0) (.int .i64 0) (.int .i64 0) 61).on q1); have Q1 := Lib.hid (bTrans (bAlloc (Below.refl _ _) _) q1); clear q1
  go_wp2_with fail
  refine (H2.out _).mono ?_; rintro e w2 ⟨rfl, q2⟩; have R2 := Lib.hid (R1.out.on q2); have Q2 := Lib.hid (bTrans Q1.out q2); clear q2 R1 Q1
  go_wp2_with fail
  refine (HI.out _).mono ?_; rintro e w3 ⟨rfl, q3⟩; have R3 := Lib.hid (R2.out.on q3); have Q3 := Lib.hid (bTrans Q2.out q3); clear q3 R2 Q2
  go_wp2_with fail
  refine (HH.out _).mono ?_; rintro e w4 ⟨rfl, rfl⟩
  have B4 := Lib.hid (Box5.new w3 (.int .i64 op) (.int .i64 0) (.int .i64 0) (.int .i64 0) (.int .i64 n) 61)
  have R4 := Lib.hid (R3.out.on (bAlloc (Below.refl _ _) (.cells #[.int .i64 op, .int .i64 0, .int .i64 0, .int .i64 0, .int .i64 n] 61)))
  have NE := Lib.hid (Nat.ne_of_lt R3.out.lt)
  have LW := Lib.hid (Nat.le_of_lt R3.out.lt)
  have Q4 := Lib.hid (bAlloc Q3.out (.cells #[.int .i64 op, .int .i64 0, .int .i64 0, .int .i64 0, .int .i64 n] 61))
  clear R3 Q3
  go_wp2_with fail
  refine (Fra.out _).mono ?_; rintro e w5 ⟨rfl, q5⟩
  have Ba5 := Lib.hid (B4.out.on q5); have Ra5 := Lib.hid (R4.out.on q5); have Qa5 := Lib.hid (bTrans Q4.out q5); clear q5 B4 R4 Q4
  have Bb5 := Lib.hid (Ba5.out.set1 (.int .i64 ra)); have Rb5 := Lib.hid (Ra5.out.other _ 1 (.int .i64 ra) NE.out); have Qb5 := Lib.hid (Below.setCell (p := ⟨w3.heap.size, 1, none⟩) Qa5.out LW.out (.int .i64 ra))
  obtain ⟨g5, c50, c51, c52, c53, c54⟩ := Ba5.out
  have g5' := g5 1
  obtain ⟨k5, d50, d51, d52, d53, d54⟩ := Rb5.out
  have k5 := Ra5.out.1
  have k50 := k5 0; have k51 := k5 1; have k52 := k5 2; have k53 := k5 3; have k54 := k5 4
  obtain ⟨y0, y1, y2, y3, y4, y5⟩ := Bb5.out
  clear Ba5 Ra5 Qa5
  go_wp2_with fail
  obtain ⟨z, z0, z1, z2, z3, z4⟩ := Rb5.out.set (.int .i64 op) (.int .i64 ((ra : Nat) : Int)) (.int .i64 (0 : Int)) (.int .i64 (0 : Int)) (.int .i64 n)
  refine bodyPost_ret (v := instV op ((ra : Nat) : Int) 0 0 n) ?_ rfl ⟨rfl, ?_⟩
  · simp [results, Tryz.results134, go_sem, instV, z0, z1, z2, z3, z4]
  · exact Below.setCell (Below.setCell (Below.setCell (Below.setCell (Below.setCell Qb5.out (Nat.le_refl _) _) (Nat.le_refl _) _) (Nat.le_refl _) _) (Nat.le_refl _) _) (Nat.le_refl _) _
theorem read9 (op s : Int) (b x : Nat) (hb : b < 4294967296) (hx : x < 4294967296) (hk : kindZ b = 9) (hs : shiftZ b = s) (hi : Imm x s 9) : ReadP op 9 s b x := by
  intro w
  have h1 := fun w => kindOf_any b w hb
  have h2 := fun w => shift_any b w hb
  rw [hk] at h1
  rw [hs] at h2
  have H1 := Lib.hid h1
  have H2 := Lib.hid h2
  obtain ⟨n, hn⟩ : ∃ v, immZ 9 s x = v := ⟨_, rfl⟩
  unfold Imm at hi
  rw [hn] at hi ⊢
  have HI := Lib.hid hi
  have hh := fun w => has_any 9 w
  rw [hasZ_9] at hh
  have HH := Lib.hid hh
  rw [rdN_9, rs1N_9, rs2N_9]
  clear h1 h2 hk hs hi hn hh hb hx
  go_enter Tryz.func134, Tryz.ntmps134
  go_wp2_with fail
  refine (H1.out _).mono ?_; rintro e w1 ⟨rfl, q1⟩
  have R1 := Lib.hid ((Box5.new w (.int .i64 0) (.int .i64 0) (.int .i64 0) (.int .i64 0) (.int .i64 0) 61).on q1); have Q1 := Lib.hid (bTrans (bAlloc (Below.refl _ _) _) q1); clear q1
  go_wp2_with fail
  refine (H2.out _).mono ?_; rintro e w2 ⟨rfl, q2⟩; have R2 := Lib.hid (R1.out.on q2); have Q2 := Lib.hid (bTrans Q1.out q2); clear q2 R1 Q1
  go_wp2_with fail
  refine (HI.out _).mono ?_; rintro e w3 ⟨rfl, q3⟩; have R3 := Lib.hid (R2.out.on q3); have Q3 := Lib.hid (bTrans Q2.out q3); clear q3 R2 Q2
  go_wp2_with fail
  refine (HH.out _).mono ?_; rintro e w4 ⟨rfl, rfl⟩
  have B4 := Lib.hid (Box5.new w3 (.int .i64 op) (.int .i64 0) (.int .i64 0) (.int .i64 0) (.int .i64 n) 61)
  have R4 := Lib.hid (R3.out.on (bAlloc (Below.refl _ _) (.cells #[.int .i64 op, .int .i64 0, .int .i64 0, .int .i64 0, .int .i64 n] 61)))
  have NE := Lib.hid (Nat.ne_of_lt R3.out.lt)
  have LW := Lib.hid (Nat.le_of_lt R3.out.lt)
  have Q4 := Lib.hid (bAlloc Q3.out (.cells #[.int .i64 op, .int .i64 0, .int .i64 0, .int .i64 0, .int .i64 n] 61))
  clear R3 Q3
  obtain ⟨k4, d40, d41, d42, d43, d44⟩ := R4.out
  have k40 := k4 0; have k41 := k4 1; have k42 := k4 2; have k43 := k4 3; have k44 := k4 4
  obtain ⟨y0, y1, y2, y3, y4, y5⟩ := B4.out
  go_wp2_with fail
  obtain ⟨z, z0, z1, z2, z3, z4⟩ := R4.out.set (.int .i64 op) (.int .i64 (0 : Int)) (.int .i64 (0 : Int)) (.int .i64 (0 : Int)) (.int .i64 n)
  refine bodyPost_ret (v := instV op 0 0 0 n) ?_ rfl ⟨rfl, ?_⟩
  · simp [results, Tryz.results134, go_sem, instV, z0, z1, z2, z3, z4]
  · exact Below.setCell (Below.setCell (Below.setCell (Below.setCell (Below.setCell Q4.out (Nat.le_refl _) _) (Nat.le_refl _) _) (Nat.le_refl _) _) (Nat.le_refl _) _) (Nat.le_refl _) _
end Go.Proofs.YtegoddghfjfibaaGreatDoor.Is

