/- LwZ -/
import Derived.Test.YtegoddghfjfibaaGreatDoorZ47
namespace Go.Proofs.YtegoddghfjfibaaGreatDoor
set_option linter.unusedVariables false
set_option linter.unusedSimpArgs false
open Go.Joins Go.ChangeShapes Go.WideShapes Go.ChangeAt Go.RowKit Go.Deep

theorem cap_eq0 (w : World) (c : Cp) : (Op.equalIn 10000 24 (.agg (capC c).toArray) (.agg (capC c).toArray)).run Tryz.prog w = .ok true w := by
  obtain ⟨cb, ct, ca, cp, cy, cg⟩ := c
  rw [show (capC ⟨cb, ct, ca, cp, cy, cg⟩).toArray = #[.int .u64 cb, .int .u64 ct, .int .u64 ca, .int .i64 cp, .int .i64 cy, .bool cg] from rfl]
  have hu := Tryz.underlying24
  have ht : Tryz.prog.underlying 24 = some (.struct (Tryz.prog.fieldsOf 24)) := by
    unfold Program.fieldsOf
    rw [hu]
  have hs : Tryz.prog.stoodInHeld 24 = false := by kernel_rfl
  rw [run_equalIn_agg w 9999 _ _ _ ht hs]
  unfold Program.fieldsOf
  rw [hu]
  have hU := Tryz.underlying22
  have hI := Tryz.underlying3
  have hB := Tryz.underlying4
  obtain ⟨X, hX⟩ : ∃ X : Array Value, #[.int .u64 cb, .int .u64 ct, .int .u64 ca, .int .i64 cp, .int .i64 cy, .bool cg] = X := ⟨_, rfl⟩
  have p0 : (part 22 X 0).run Tryz.prog w = .ok (.int .u64 cb) w := by rw [← hX]; simp [part, isAgg, run_underlying hU]
  have p1 : (part 22 X 1).run Tryz.prog w = .ok (.int .u64 ct) w := by rw [← hX]; simp [part, isAgg, run_underlying hU]
  have p2 : (part 22 X 2).run Tryz.prog w = .ok (.int .u64 ca) w := by rw [← hX]; simp [part, isAgg, run_underlying hU]
  have p3 : (part 3 X 3).run Tryz.prog w = .ok (.int .i64 cp) w := by rw [← hX]; simp [part, isAgg, run_underlying hI]
  have p4 : (part 3 X 4).run Tryz.prog w = .ok (.int .i64 cy) w := by rw [← hX]; simp [part, isAgg, run_underlying hI]
  have p5 : (part 4 X 5).run Tryz.prog w = .ok (.bool cg) w := by rw [← hX]; simp [part, isAgg, run_underlying hB]
  have e0 : ∀ a, (Op.equalIn 9999 22 (.int .u64 a) (.int .u64 a)).run Tryz.prog w = .ok true w := fun a => by rw [run_equalIn_int w 9998 _ .u64 .u64 a a hU]; simp
  have e1 : ∀ a, (Op.equalIn 9999 3 (.int .i64 a) (.int .i64 a)).run Tryz.prog w = .ok true w := fun a => by rw [run_equalIn_int w 9998 _ .i64 .i64 a a hI]; simp
  have e2 : ∀ a, (Op.equalIn 9999 4 (.bool a) (.bool a)).run Tryz.prog w = .ok true w := fun a => by rw [run_equalIn_bool' w 9998 _ a a hB]; simp
  rw [hX]
  simp [Op.eqFields, p0, p1, p2, p3, p4, p5, e0, e1, e2]
theorem cap_eql (w : World) (c : Cp) : (binOp .eql 24 (.agg (capC c).toArray) (.agg (capC c).toArray)).run Tryz.prog w = .ok (.bool true) w := by
  rw [run_eql_struct, cap_eq0 w c]
  rfl
def zxs (op : Nat) : List InsZ := [⟨op, 0, 1, 1, 0⟩, ⟨80, 2, 0, 0, 0⟩, ⟨1, 3, 0, 0, 0⟩]
def zrC : Bool := (List.range 83).all fun k => !(Is.kindO (k : Int) == 1) || Is.rightB (k : Int) 0 1 1 0
theorem zr_ok : zrC = true := by decide +kernel
theorem zr_at (op : Nat) (h : op ≤ 82) (hk : Is.kindO (op : Int) = 1) : Is.rightB (op : Int) 0 1 1 0 = true := by
  have h1 := zr_ok
  unfold zrC at h1
  rw [List.all_eq_true] at h1
  have h3 := h1 op (List.mem_range.2 (by omega))
  rw [hk] at h3
  simpa using h3
/-- what the three steps do -/
theorem zero_steps (op : Nat) (o1 : 1 ≤ op) (o2 : op ≤ 82) (hk : Is.kindO (op : Int) = 1) (rs : List Cp) :
    stepP ⟨pcAt 0, rs, (codeF (zxs op)).1⟩ = (⟨pcAt 4, rs, (codeF (zxs op)).1⟩, 0) ∧ stepP ⟨pcAt 4, rs, (codeF (zxs op)).1⟩ = (⟨pcAt 8, rs.set 2 nullC, (codeF (zxs op)).1⟩, 0) ∧ stepP ⟨pcAt 8, rs, (codeF (zxs op)).1⟩ = (⟨pcAt 12, rs.set 3 nullC, (codeF (zxs op)).1⟩, 0) := by
  have hl : (zxs op).length = 3 := rfl
  have l0 := code_load (zxs op) (by rw [hl]; decide) 0 (by rw [hl]; decide)
  have l1 := code_load (zxs op) (by rw [hl]; decide) 1 (by rw [hl]; decide)
  have l2 := code_load (zxs op) (by rw [hl]; decide) 2 (by rw [hl]; decide)
  obtain ⟨m, hm⟩ : ∃ m, (codeF (zxs op)).1 = m := ⟨_, rfl⟩
  rw [hm] at l0 l1 l2 ⊢
  have hkz : Is.kindZ (Is.bareN (op : Int)) = 1 := by rw [← kindO_in op o1 o2]; exact hk
  refine ⟨?_, ?_, ?_⟩
  · rw [step_enc ⟨pcAt 0, rs, m⟩ op 0 1 1 0 (pc_ck 0 (by decide) (by decide)) l0 (zr_at op o2 hk)]
    unfold doP
    simp only []
    have : kindP ⟨op, 0, 1, 1, 0⟩ = 1 := hkz
    rw [this, if_pos (Or.inl rfl), pc_next 0 (by decide) (by decide)]
    rfl
  · rw [step_enc ⟨pcAt 4, rs, m⟩ 80 2 0 0 0 (pc_ck 4 (by decide) (by decide)) l1 (by decide +kernel)]
    unfold doP
    simp only []
    have : kindP ⟨80, 2, 0, 0, 0⟩ = 8 := by decide +kernel
    rw [this, if_neg (by decide), if_pos rfl, pc_next 4 (by decide) (by decide)]
    have ha : askP ⟨80, 2, 0, 0, 0⟩ rs = nullC := by
      unfold askP
      simp only []
      rw [if_neg (by decide +kernel), if_neg (by decide +kernel), if_neg (by decide +kernel), if_neg (by decide +kernel), if_neg (by decide +kernel), if_neg (by decide +kernel), if_neg (by decide +kernel)]
      rfl
    rw [ha]
    rfl
  · rw [step_enc ⟨pcAt 8, rs, m⟩ 1 3 0 0 0 (pc_ck 8 (by decide) (by decide)) l2 (by decide +kernel)]
    unfold doP
    simp only []
    have : kindP ⟨1, 3, 0, 0, 0⟩ = 1 := by decide +kernel
    rw [this, if_pos (Or.inl rfl), pc_next 8 (by decide) (by decide)]
    have ha : reckonP ⟨1, 3, 0, 0, 0⟩ rs = nullC := by
      unfold reckonP
      simp only []
      rw [if_pos (by decide), this, if_neg (by decide)]
      rfl
    rw [ha]
    rfl
theorem zero_begin (op : Nat) (c : Cp) : bothM runP (zxs op) [⟨1, c⟩] = ⟨pcAt 0, (List.replicate 32 nullC).set 1 c, (codeF (zxs op)).1⟩ := rfl
theorem rd_box {w : World} {g : Nat} {cs : Array Value} (h : BoxN w g cs) : Rd w (some ⟨g, 0, none⟩) cs.size cs.toList := by
  refine ⟨by simp, fun _ => ⟨g, 0, rfl, h.lt, fun k hk => ?_⟩⟩
  rw [Nat.zero_add, h.cell]
  simp
abbrev ZeT (W6 : World) (N op : Nat) (s0 : Mch) (CC PP : Array Value) (A0 : Act) (d : Nat → Bool) (a : Act) (w : World) : Prop :=
  ∃ (A B M : Nat) (F : Nat → Prop) (v8 v9 v27 v28 v29 v30 v31 v32 v33 v34 v35 v36 v37 v38 v39 : Value), a = (((((((((((((((A0.put (some 8) v8).put (some 9) v9).put (some 27) v27).put (some 28) v28).put (some 29) v29).put (some 30) v30).put (some 31) v31).put (some 32) v32).put (some 33) v33).put (some 34) v34).put (some 35) v35).put (some 36) v36).put (some 37) v37).put (some 38) v38).put (some 39) v39) ∧ Below W6.heap.size W6 w ∧
    (d 0 = true → v28 = .agg #[.int .u64 0, .int .u64 2048, .int .u64 0, .int .i64 13, .int .i64 (-1), .bool true]) ∧
    (d 1 = true → v29 = .int .i64 (op : Int)) ∧
    (d 2 = true → v30 = .agg #[.int .i64 (op : Int), .int .i64 0, .int .i64 1, .int .i64 1, .int .i64 0]) ∧
    (d 3 = true → v31 = .agg #[.int .i64 80, .int .i64 2, .int .i64 0, .int .i64 0, .int .i64 0]) ∧
    (d 4 = true → v32 = .agg #[.int .i64 1, .int .i64 3, .int .i64 0, .int .i64 0, .int .i64 0]) ∧
    (d 5 = true → ∃ g, v33 = .slice (some ⟨g, 0, none⟩) 3 3 ∧ BoxN w g #[.int .i64 (op : Int), .int .i64 0, .int .i64 1, .int .i64 1, .int .i64 0, .int .i64 80, .int .i64 2, .int .i64 0, .int .i64 0, .int .i64 0, .int .i64 1, .int .i64 3, .int .i64 0, .int .i64 0, .int .i64 0]) ∧
    (d 6 = true → v34 = .agg CC) ∧
    (d 7 = true → v35 = .agg PP) ∧
    (d 8 = true → ∃ g, v36 = .slice (some ⟨g, 0, none⟩) 1 1 ∧ BoxN w g PP) ∧
    (d 9 = true → v37 = .tuple #[.pointer (some ⟨A, 0, none⟩), .pointer (some ⟨B, 0, none⟩)] ∧ MsAt N w [⟨A, M, F, s0⟩]) ∧
    (d 10 = true → v27 = .tuple #[.pointer (some ⟨A, 0, none⟩), .pointer (some ⟨B, 0, none⟩)]) ∧
    (d 11 = true → v38 = .pointer (some ⟨A, 0, none⟩)) ∧
    (d 12 = true → v39 = .pointer (some ⟨B, 0, none⟩)) ∧
    (d 13 = true → v8 = .pointer (some ⟨A, 0, none⟩)) ∧
    (d 14 = true → v9 = .pointer (some ⟨B, 0, none⟩)) ∧
    (d 10 = true → d 9 = true) ∧ (d 11 = true → d 9 = true) ∧ (d 12 = true → d 9 = true) ∧ (d 13 = true → d 9 = true) ∧ (d 14 = true → d 9 = true)
set_option maxRecDepth 100000 in
set_option maxHeartbeats 32000000 in
theorem CpuZero_walk (W : World) (nt : Is.NT W) (cb ct ca cp cy : Int) (cg : Bool) (op : Int) (hfc : FitC ⟨cb, ct, ca, cp, cy, cg⟩) :
    Calls Tryz.prog 7 #[.agg #[.int .u64 cb, .int .u64 ct, .int .u64 ca, .int .i64 cp, .int .i64 cy, .bool cg], .int .i64 op] W fun e w' => e = .returned (.bool true) ∧ Below W.heap.size W w' := by
  have HFC := Lib.hid hfc
  have HG : Hid (1 < W.heap.size ∧ 0 < W.heap.size) := Lib.hid ⟨nt.1.1, nt.2.1⟩
  have CR := Lib.hid (fun w => right_any ⟨cb, ct, ca, cp, cy, cg⟩ w)
  unfold capC at CR
  simp only [] at CR
  obtain ⟨r, hr⟩ : ∃ r, rightB ⟨cb, ct, ca, cp, cy, cg⟩ = r := ⟨_, rfl⟩
  rw [hr] at CR
  have HR := Lib.hid hr
  have CO := Lib.hid (fun w => Is.of_any op w)
  unfold opV at CO
  rw [Is.kind_same op] at CO
  obtain ⟨o1, ho1⟩ : ∃ s, opN op = s := ⟨_, rfl⟩
  obtain ⟨o2, ho2⟩ : ∃ s, (opR op).2.2.1 = s := ⟨_, rfl⟩
  obtain ⟨o3, ho3⟩ : ∃ s, (opR op).2.2.2.1 = s := ⟨_, rfl⟩
  obtain ⟨o4, ho4⟩ : ∃ s, (opR op).2.2.2.2.1 = s := ⟨_, rfl⟩
  obtain ⟨o5, ho5⟩ : ∃ s, (opR op).2.2.2.2.2 = s := ⟨_, rfl⟩
  rw [ho1, ho2, ho3, ho4, ho5] at CO
  obtain ⟨k, hk⟩ : ∃ k, Is.kindO op = k := ⟨_, rfl⟩
  rw [hk] at CO
  have HK := Lib.hid hk
  have hb0 := bAlloc (Below.refl W.heap.size W) (.cells #[.int .u64 cb, .int .u64 ct, .int .u64 ca, .int .i64 cp, .int .i64 cy, .bool cg] 24)
  have HX0 := Lib.hid (BoxN.new W #[.int .u64 cb, .int .u64 ct, .int .u64 ca, .int .i64 cp, .int .i64 cy, .bool cg] 24)
  have HB0 := Lib.hid hb0
  have CA := Lib.hid (awake_any _ (nt.on hb0))
  have HNT0 := Lib.hid (nt.on hb0)
  clear hb0 nt hfc hr hk ho1 ho2 ho3 ho4 ho5
  go_enter Tryz.func7, Tryz.ntmps7
  go_wp2_with fail
  refine CA.out.mono ?_; rintro e w1 ⟨rfl, hb⟩
  have HB1 := Lib.hid (HB0.out.trans (hb.mono HB0.out.size))
  have HX1 := Lib.hid (boxN_below HX0.out hb)
  have HNT1 := Lib.hid (HNT0.out.on hb)
  obtain ⟨⟨c0, c1, c2, c3, c4, c5⟩, -⟩ := boxN6 HX1.out
  clear hb CA HB0 HX0 HNT0
  go_wp2_with fail
  refine (CR.out _).mono ?_; rintro e w2 ⟨rfl, hb⟩
  have HB2 := Lib.hid (HB1.out.trans (hb.mono HB1.out.size))
  have HX2 := Lib.hid (boxN_below HX1.out hb)
  have HNT2 := Lib.hid (HNT1.out.on hb)
  clear hb CR HB1 HX1 HNT1 c0 c1 c2 c3 c4 c5
  go_wp2_with fail
  refine (CO.out _).mono ?_; rintro e w3 ⟨rfl, hb⟩
  have HB3 := Lib.hid (HB2.out.trans (hb.mono HB2.out.size))
  have HX3 := Lib.hid (boxN_below HX2.out hb)
  have HNT3 := Lib.hid (HNT2.out.on hb)
  clear hb CO HB2 HX2 HNT2
  go_upto_region 4 with fail
  obtain ⟨W6, hW6⟩ : ∃ w, w3.alloc (.cells #[.string ⟨o1.toArray⟩, .int .i64 k, .int .i64 o2, .int .i64 o3, .int .i64 o4, .int .i64 o5] 57) = w := ⟨_, rfl⟩
  have hba : Below w3.heap.size w3 W6 := by rw [← hW6]; exact bAlloc (Below.refl _ _) _
  have hx7 : BoxN W6 w3.heap.size #[.string ⟨o1.toArray⟩, .int .i64 k, .int .i64 o2, .int .i64 o3, .int .i64 o4, .int .i64 o5] := by rw [← hW6]; exact BoxN.new _ _ _
  have HB6 := Lib.hid (HB3.out.trans (hba.mono HB3.out.size))
  have HC6 := Lib.hid (boxN_below HX3.out hba)
  have HNT6 := Lib.hid (HNT3.out.on hba)
  have k1 : W6.cell? ⟨w3.heap.size, 1, none⟩ = some (.int .i64 k) := hx7.cell 1
  rw [hW6]
  clear hW6 hba hx7 HB3 HX3 HNT3
  cases r with
  | false =>
    go_wp2_with fail
    go_ret
    exact ⟨rfl, HB6.out⟩
  | true =>
  by_cases hk1 : k = 1
  case neg =>
    have q1 : (k == 1) = false := by simpa using hk1
    have q2 : (k != 1) = true := by simpa using hk1
    clear hk1
    go_wp2_with fail
    go_ret
    exact ⟨rfl, HB6.out⟩
  subst hk1
  have hop : 1 ≤ op ∧ op ≤ 82 := by
    have := HK.out
    unfold Is.kindO at this
    split at this
    · assumption
    · cases this
  obtain ⟨op, rfl⟩ : ∃ n : Nat, op = (n : Int) := ⟨op.toNat, by omega⟩
  have HO := Lib.hid (show 1 ≤ op ∧ op ≤ 82 by omega)
  obtain ⟨N, hN⟩ : ∃ N, W.heap.size + 1 = N := ⟨_, rfl⟩
  have HN : Hid (N ≤ W6.heap.size) := Lib.hid (by rw [← hN]; exact HC6.out.lt)
  have HNW := Lib.hid hN
  have HG2 : Hid (1 < N ∧ 0 < N) := Lib.hid ⟨by have := HG.out.1; omega, by have := HG.out.2; omega⟩
  have HOK : Hid (okB runP (zxs op) [⟨1, ⟨cb, ct, ca, cp, cy, cg⟩⟩] = true) := Lib.hid (by
    have h1 : okP ⟨1, ⟨cb, ct, ca, cp, cy, cg⟩⟩ = true := by
      unfold okP
      simp only []
      rw [HR.out]
      rfl
    show (rightB runP && (decide ((3 : Nat) ≤ 64) && (decide ((1 : Nat) ≤ 40) && (okP ⟨1, ⟨cb, ct, ca, cp, cy, cg⟩⟩ && true)))) = true
    rw [h1]
    decide)
  obtain ⟨s0, hs0⟩ : ∃ s, bothM runP (zxs op) [⟨1, ⟨cb, ct, ca, cp, cy, cg⟩⟩] = s := ⟨_, rfl⟩
  have HBG := Lib.hid hs0
  clear hop hN hs0
  go_upto_region 6 with fail
  clear k1
  refine wp_region_invA (by kernel_rfl) (by kernel_rfl) (ZeT W6 N op s0 #[.int .u64 cb, .int .u64 ct, .int .u64 ca, .int .i64 cp, .int .i64 cy, .bool cg] #[.int .i64 1, .int .u64 cb, .int .u64 ct, .int .u64 ca, .int .i64 cp, .int .i64 cy, .bool cg]) ?_ (Steps.cons ?_ (Steps.cons ?_ (Steps.cons ?_ (Steps.cons ?_ (Steps.cons ?_ (Steps.cons ?_ (Steps.cons ?_ (Steps.cons ?_ (Steps.cons ?_ (Steps.cons ?_ (Steps.cons ?_ (Steps.cons ?_ (Steps.cons ?_ (Steps.cons ?_ (Steps.cons ?_ (Steps.nil)))))))))))))))) ?_
  · exact ⟨0, 0, 0, fun _ => False, _, _, _, _, _, _, _, _, _, _, _, _, _, _, _, (by simp only [Act.put, List.setIfInBounds_toArray, List.set_cons_zero, List.set_cons_succ]; rfl), Below.drew (Below.refl _ _), fun h => (by cases h), fun h => (by cases h), fun h => (by cases h), fun h => (by cases h), fun h => (by cases h), fun h => (by cases h), fun h => (by cases h), fun h => (by cases h), fun h => (by cases h), fun h => (by cases h), fun h => (by cases h), fun h => (by cases h), fun h => (by cases h), fun h => (by cases h), fun h => (by cases h), fun h => (by cases h), fun h => (by cases h), fun h => (by cases h), fun h => (by cases h), fun h => (by cases h)⟩
  · rintro d a w hd hall ⟨A, B, M, F, v8, v9, v27, v28, v29, v30, v31, v32, v33, v34, v35, v36, v37, v38, v39, rfl, hb, h0, h1, h2, h3, h4, h5, h6, h7, h8, h9, h10, h11, h12, h13, h14, g10, g11, g12, g13, g14⟩ K' hK
    clear hall
    simp only [Act.put, List.setIfInBounds_toArray, List.set_cons_zero, List.set_cons_succ]
    go_simp
    go_at_call 26
    refine (run_any w).mono ?_; rintro e w5 ⟨rfl, hl⟩
    have hb5 := hb.trans (hl.mono hb.size)
    simp only []
    go_simp
    exact hK.out _ _ ⟨A, B, M, F, v8, v9, v27, .agg #[.int .u64 0, .int .u64 2048, .int .u64 0, .int .i64 13, .int .i64 (-1), .bool true], v29, v30, v31, v32, v33, v34, v35, v36, v37, v38, v39, (by simp only [Act.put, List.setIfInBounds_toArray, List.set_cons_zero, List.set_cons_succ]), hb5, fun _ => rfl, fun h => h1 (dn h rfl), fun h => h2 (dn h rfl), fun h => h3 (dn h rfl), fun h => h4 (dn h rfl), fun h => (by obtain ⟨g, q1, q2⟩ := h5 (dn h rfl); exact ⟨g, q1, boxN_below q2 hl⟩), fun h => h6 (dn h rfl), fun h => h7 (dn h rfl), fun h => (by obtain ⟨g, q1, q2⟩ := h8 (dn h rfl); exact ⟨g, q1, boxN_below q2 hl⟩), fun h => ⟨(h9 (dn h rfl)).1, (h9 (dn h rfl)).2.below hl⟩, fun h => h10 (dn h rfl), fun h => h11 (dn h rfl), fun h => h12 (dn h rfl), fun h => h13 (dn h rfl), fun h => h14 (dn h rfl), fun h => (by show (_ || _) = true; rw [g10 (dn h rfl)]; rfl), fun h => (by show (_ || _) = true; rw [g11 (dn h rfl)]; rfl), fun h => (by show (_ || _) = true; rw [g12 (dn h rfl)]; rfl), fun h => (by show (_ || _) = true; rw [g13 (dn h rfl)]; rfl), fun h => (by show (_ || _) = true; rw [g14 (dn h rfl)]; rfl)⟩
  · rintro d a w hd hall ⟨A, B, M, F, v8, v9, v27, v28, v29, v30, v31, v32, v33, v34, v35, v36, v37, v38, v39, rfl, hb, h0, h1, h2, h3, h4, h5, h6, h7, h8, h9, h10, h11, h12, h13, h14, g10, g11, g12, g13, g14⟩ K' hK
    clear hall
    simp only [Act.put, List.setIfInBounds_toArray, List.set_cons_zero, List.set_cons_succ]
    go_simp
    exact hK.out _ _ ⟨A, B, M, F, v8, v9, v27, v28, .int .i64 (op : Int), v30, v31, v32, v33, v34, v35, v36, v37, v38, v39, (by simp only [Act.put, List.setIfInBounds_toArray, List.set_cons_zero, List.set_cons_succ]), hb, fun h => h0 (dn h rfl), fun _ => rfl, fun h => h2 (dn h rfl), fun h => h3 (dn h rfl), fun h => h4 (dn h rfl), fun h => h5 (dn h rfl), fun h => h6 (dn h rfl), fun h => h7 (dn h rfl), fun h => h8 (dn h rfl), fun h => h9 (dn h rfl), fun h => h10 (dn h rfl), fun h => h11 (dn h rfl), fun h => h12 (dn h rfl), fun h => h13 (dn h rfl), fun h => h14 (dn h rfl), fun h => (by show (_ || _) = true; rw [g10 (dn h rfl)]; rfl), fun h => (by show (_ || _) = true; rw [g11 (dn h rfl)]; rfl), fun h => (by show (_ || _) = true; rw [g12 (dn h rfl)]; rfl), fun h => (by show (_ || _) = true; rw [g13 (dn h rfl)]; rfl), fun h => (by show (_ || _) = true; rw [g14 (dn h rfl)]; rfl)⟩
  · rintro d a w hd hall ⟨A, B, M, F, v8, v9, v27, v28, v29, v30, v31, v32, v33, v34, v35, v36, v37, v38, v39, rfl, hb, h0, h1, h2, h3, h4, h5, h6, h7, h8, h9, h10, h11, h12, h13, h14, g10, g11, g12, g13, g14⟩ K' hK
    have e1 : d 1 = true := hall ⟨1, .data⟩ (by simp) rfl
    clear hall
    obtain rfl := h1 e1
    simp only [Act.put, List.setIfInBounds_toArray, List.set_cons_zero, List.set_cons_succ]
    go_simp
    exact hK.out _ _ ⟨A, B, M, F, v8, v9, v27, v28, .int .i64 (op : Int), .agg #[.int .i64 (op : Int), .int .i64 0, .int .i64 1, .int .i64 1, .int .i64 0], v31, v32, v33, v34, v35, v36, v37, v38, v39, (by simp only [Act.put, List.setIfInBounds_toArray, List.set_cons_zero, List.set_cons_succ]), hb, fun h => h0 (dn h rfl), fun _ => rfl, fun _ => rfl, fun h => h3 (dn h rfl), fun h => h4 (dn h rfl), fun h => h5 (dn h rfl), fun h => h6 (dn h rfl), fun h => h7 (dn h rfl), fun h => h8 (dn h rfl), fun h => h9 (dn h rfl), fun h => h10 (dn h rfl), fun h => h11 (dn h rfl), fun h => h12 (dn h rfl), fun h => h13 (dn h rfl), fun h => h14 (dn h rfl), fun h => (by show (_ || _) = true; rw [g10 (dn h rfl)]; rfl), fun h => (by show (_ || _) = true; rw [g11 (dn h rfl)]; rfl), fun h => (by show (_ || _) = true; rw [g12 (dn h rfl)]; rfl), fun h => (by show (_ || _) = true; rw [g13 (dn h rfl)]; rfl), fun h => (by show (_ || _) = true; rw [g14 (dn h rfl)]; rfl)⟩
  · rintro d a w hd hall ⟨A, B, M, F, v8, v9, v27, v28, v29, v30, v31, v32, v33, v34, v35, v36, v37, v38, v39, rfl, hb, h0, h1, h2, h3, h4, h5, h6, h7, h8, h9, h10, h11, h12, h13, h14, g10, g11, g12, g13, g14⟩ K' hK
    clear hall
    simp only [Act.put, List.setIfInBounds_toArray, List.set_cons_zero, List.set_cons_succ]
    go_simp
    go_at_call 27
    refine (inst_any _ 80 fCmove 2 0 0 0 w).mono ?_; rintro e w5 ⟨rfl, hl⟩
    have hb5 := hb.trans (hl.mono hb.size)
    simp only []
    go_simp
    exact hK.out _ _ ⟨A, B, M, F, v8, v9, v27, v28, v29, v30, .agg #[.int .i64 80, .int .i64 2, .int .i64 0, .int .i64 0, .int .i64 0], v32, v33, v34, v35, v36, v37, v38, v39, (by simp only [Act.put, List.setIfInBounds_toArray, List.set_cons_zero, List.set_cons_succ]), hb5, fun h => h0 (dn h rfl), fun h => h1 (dn h rfl), fun h => h2 (dn h rfl), fun _ => rfl, fun h => h4 (dn h rfl), fun h => (by obtain ⟨g, q1, q2⟩ := h5 (dn h rfl); exact ⟨g, q1, boxN_below q2 hl⟩), fun h => h6 (dn h rfl), fun h => h7 (dn h rfl), fun h => (by obtain ⟨g, q1, q2⟩ := h8 (dn h rfl); exact ⟨g, q1, boxN_below q2 hl⟩), fun h => ⟨(h9 (dn h rfl)).1, (h9 (dn h rfl)).2.below hl⟩, fun h => h10 (dn h rfl), fun h => h11 (dn h rfl), fun h => h12 (dn h rfl), fun h => h13 (dn h rfl), fun h => h14 (dn h rfl), fun h => (by show (_ || _) = true; rw [g10 (dn h rfl)]; rfl), fun h => (by show (_ || _) = true; rw [g11 (dn h rfl)]; rfl), fun h => (by show (_ || _) = true; rw [g12 (dn h rfl)]; rfl), fun h => (by show (_ || _) = true; rw [g13 (dn h rfl)]; rfl), fun h => (by show (_ || _) = true; rw [g14 (dn h rfl)]; rfl)⟩
  · rintro d a w hd hall ⟨A, B, M, F, v8, v9, v27, v28, v29, v30, v31, v32, v33, v34, v35, v36, v37, v38, v39, rfl, hb, h0, h1, h2, h3, h4, h5, h6, h7, h8, h9, h10, h11, h12, h13, h14, g10, g11, g12, g13, g14⟩ K' hK
    clear hall
    simp only [Act.put, List.setIfInBounds_toArray, List.set_cons_zero, List.set_cons_succ]
    go_simp
    go_at_call 27
    refine (inst_any _ 1 fAdd 3 0 0 0 w).mono ?_; rintro e w5 ⟨rfl, hl⟩
    have hb5 := hb.trans (hl.mono hb.size)
    simp only []
    go_simp
    exact hK.out _ _ ⟨A, B, M, F, v8, v9, v27, v28, v29, v30, v31, .agg #[.int .i64 1, .int .i64 3, .int .i64 0, .int .i64 0, .int .i64 0], v33, v34, v35, v36, v37, v38, v39, (by simp only [Act.put, List.setIfInBounds_toArray, List.set_cons_zero, List.set_cons_succ]), hb5, fun h => h0 (dn h rfl), fun h => h1 (dn h rfl), fun h => h2 (dn h rfl), fun h => h3 (dn h rfl), fun _ => rfl, fun h => (by obtain ⟨g, q1, q2⟩ := h5 (dn h rfl); exact ⟨g, q1, boxN_below q2 hl⟩), fun h => h6 (dn h rfl), fun h => h7 (dn h rfl), fun h => (by obtain ⟨g, q1, q2⟩ := h8 (dn h rfl); exact ⟨g, q1, boxN_below q2 hl⟩), fun h => ⟨(h9 (dn h rfl)).1, (h9 (dn h rfl)).2.below hl⟩, fun h => h10 (dn h rfl), fun h => h11 (dn h rfl), fun h => h12 (dn h rfl), fun h => h13 (dn h rfl), fun h => h14 (dn h rfl), fun h => (by show (_ || _) = true; rw [g10 (dn h rfl)]; rfl), fun h => (by show (_ || _) = true; rw [g11 (dn h rfl)]; rfl), fun h => (by show (_ || _) = true; rw [g12 (dn h rfl)]; rfl), fun h => (by show (_ || _) = true; rw [g13 (dn h rfl)]; rfl), fun h => (by show (_ || _) = true; rw [g14 (dn h rfl)]; rfl)⟩
  · rintro d a w hd hall ⟨A, B, M, F, v8, v9, v27, v28, v29, v30, v31, v32, v33, v34, v35, v36, v37, v38, v39, rfl, hb, h0, h1, h2, h3, h4, h5, h6, h7, h8, h9, h10, h11, h12, h13, h14, g10, g11, g12, g13, g14⟩ K' hK
    have e2 : d 2 = true := hall ⟨2, .data⟩ (by simp) rfl
    have e3 : d 3 = true := hall ⟨3, .data⟩ (by simp) rfl
    have e4 : d 4 = true := hall ⟨4, .data⟩ (by simp) rfl
    clear hall
    obtain rfl := h2 e2
    obtain rfl := h3 e3
    obtain rfl := h4 e4
    simp only [Act.put, List.setIfInBounds_toArray, List.set_cons_zero, List.set_cons_succ]
    go_simp
    have hl : Below w.heap.size w (w.alloc (.cells #[.int .i64 (op : Int), .int .i64 0, .int .i64 1, .int .i64 1, .int .i64 0, .int .i64 80, .int .i64 2, .int .i64 0, .int .i64 0, .int .i64 0, .int .i64 1, .int .i64 3, .int .i64 0, .int .i64 0, .int .i64 0] 61)) := bAlloc (Below.refl _ _) _
    have hb5 := hb.trans (hl.mono hb.size)
    exact hK.out _ _ ⟨A, B, M, F, v8, v9, v27, v28, v29, .agg #[.int .i64 (op : Int), .int .i64 0, .int .i64 1, .int .i64 1, .int .i64 0], .agg #[.int .i64 80, .int .i64 2, .int .i64 0, .int .i64 0, .int .i64 0], .agg #[.int .i64 1, .int .i64 3, .int .i64 0, .int .i64 0, .int .i64 0], .slice (some ⟨w.heap.size, 0, none⟩) 3 3, v34, v35, v36, v37, v38, v39, (by simp only [Act.put, List.setIfInBounds_toArray, List.set_cons_zero, List.set_cons_succ]), hb5, fun h => h0 (dn h rfl), fun h => h1 (dn h rfl), fun _ => rfl, fun _ => rfl, fun _ => rfl, fun _ => ⟨w.heap.size, rfl, BoxN.new w #[.int .i64 (op : Int), .int .i64 0, .int .i64 1, .int .i64 1, .int .i64 0, .int .i64 80, .int .i64 2, .int .i64 0, .int .i64 0, .int .i64 0, .int .i64 1, .int .i64 3, .int .i64 0, .int .i64 0, .int .i64 0] 61⟩, fun h => h6 (dn h rfl), fun h => h7 (dn h rfl), fun h => (by obtain ⟨g, q1, q2⟩ := h8 (dn h rfl); exact ⟨g, q1, boxN_below q2 hl⟩), fun h => ⟨(h9 (dn h rfl)).1, (h9 (dn h rfl)).2.below hl⟩, fun h => h10 (dn h rfl), fun h => h11 (dn h rfl), fun h => h12 (dn h rfl), fun h => h13 (dn h rfl), fun h => h14 (dn h rfl), fun h => (by show (_ || _) = true; rw [g10 (dn h rfl)]; rfl), fun h => (by show (_ || _) = true; rw [g11 (dn h rfl)]; rfl), fun h => (by show (_ || _) = true; rw [g12 (dn h rfl)]; rfl), fun h => (by show (_ || _) = true; rw [g13 (dn h rfl)]; rfl), fun h => (by show (_ || _) = true; rw [g14 (dn h rfl)]; rfl)⟩
  · rintro d a w hd hall ⟨A, B, M, F, v8, v9, v27, v28, v29, v30, v31, v32, v33, v34, v35, v36, v37, v38, v39, rfl, hb, h0, h1, h2, h3, h4, h5, h6, h7, h8, h9, h10, h11, h12, h13, h14, g10, g11, g12, g13, g14⟩ K' hK
    clear hall
    simp only [Act.put, List.setIfInBounds_toArray, List.set_cons_zero, List.set_cons_succ]
    have zz := boxN6 (boxN_below HC6.out hb)
    have c0 := zz.1.1; have c1 := zz.1.2.1; have c2 := zz.1.2.2.1; have c3 := zz.1.2.2.2.1; have c4 := zz.1.2.2.2.2.1; have c5 := zz.1.2.2.2.2.2
    clear zz
    go_simp
    exact hK.out _ _ ⟨A, B, M, F, v8, v9, v27, v28, v29, v30, v31, v32, v33, .agg #[.int .u64 cb, .int .u64 ct, .int .u64 ca, .int .i64 cp, .int .i64 cy, .bool cg], v35, v36, v37, v38, v39, (by simp only [Act.put, List.setIfInBounds_toArray, List.set_cons_zero, List.set_cons_succ]), hb, fun h => h0 (dn h rfl), fun h => h1 (dn h rfl), fun h => h2 (dn h rfl), fun h => h3 (dn h rfl), fun h => h4 (dn h rfl), fun h => h5 (dn h rfl), fun _ => rfl, fun h => h7 (dn h rfl), fun h => h8 (dn h rfl), fun h => h9 (dn h rfl), fun h => h10 (dn h rfl), fun h => h11 (dn h rfl), fun h => h12 (dn h rfl), fun h => h13 (dn h rfl), fun h => h14 (dn h rfl), fun h => (by show (_ || _) = true; rw [g10 (dn h rfl)]; rfl), fun h => (by show (_ || _) = true; rw [g11 (dn h rfl)]; rfl), fun h => (by show (_ || _) = true; rw [g12 (dn h rfl)]; rfl), fun h => (by show (_ || _) = true; rw [g13 (dn h rfl)]; rfl), fun h => (by show (_ || _) = true; rw [g14 (dn h rfl)]; rfl)⟩
  · rintro d a w hd hall ⟨A, B, M, F, v8, v9, v27, v28, v29, v30, v31, v32, v33, v34, v35, v36, v37, v38, v39, rfl, hb, h0, h1, h2, h3, h4, h5, h6, h7, h8, h9, h10, h11, h12, h13, h14, g10, g11, g12, g13, g14⟩ K' hK
    have e6 : d 6 = true := hall ⟨6, .data⟩ (by simp) rfl
    clear hall
    obtain rfl := h6 e6
    simp only [Act.put, List.setIfInBounds_toArray, List.set_cons_zero, List.set_cons_succ]
    go_simp
    exact hK.out _ _ ⟨A, B, M, F, v8, v9, v27, v28, v29, v30, v31, v32, v33, .agg #[.int .u64 cb, .int .u64 ct, .int .u64 ca, .int .i64 cp, .int .i64 cy, .bool cg], .agg #[.int .i64 1, .int .u64 cb, .int .u64 ct, .int .u64 ca, .int .i64 cp, .int .i64 cy, .bool cg], v36, v37, v38, v39, (by simp only [Act.put, List.setIfInBounds_toArray, List.set_cons_zero, List.set_cons_succ]), hb, fun h => h0 (dn h rfl), fun h => h1 (dn h rfl), fun h => h2 (dn h rfl), fun h => h3 (dn h rfl), fun h => h4 (dn h rfl), fun h => h5 (dn h rfl), fun _ => rfl, fun _ => rfl, fun h => h8 (dn h rfl), fun h => h9 (dn h rfl), fun h => h10 (dn h rfl), fun h => h11 (dn h rfl), fun h => h12 (dn h rfl), fun h => h13 (dn h rfl), fun h => h14 (dn h rfl), fun h => (by show (_ || _) = true; rw [g10 (dn h rfl)]; rfl), fun h => (by show (_ || _) = true; rw [g11 (dn h rfl)]; rfl), fun h => (by show (_ || _) = true; rw [g12 (dn h rfl)]; rfl), fun h => (by show (_ || _) = true; rw [g13 (dn h rfl)]; rfl), fun h => (by show (_ || _) = true; rw [g14 (dn h rfl)]; rfl)⟩
  · rintro d a w hd hall ⟨A, B, M, F, v8, v9, v27, v28, v29, v30, v31, v32, v33, v34, v35, v36, v37, v38, v39, rfl, hb, h0, h1, h2, h3, h4, h5, h6, h7, h8, h9, h10, h11, h12, h13, h14, g10, g11, g12, g13, g14⟩ K' hK
    have e7 : d 7 = true := hall ⟨7, .data⟩ (by simp) rfl
    clear hall
    obtain rfl := h7 e7
    simp only [Act.put, List.setIfInBounds_toArray, List.set_cons_zero, List.set_cons_succ]
    go_simp
    have hl : Below w.heap.size w (w.alloc (.cells #[.int .i64 1, .int .u64 cb, .int .u64 ct, .int .u64 ca, .int .i64 cp, .int .i64 cy, .bool cg] 51)) := bAlloc (Below.refl _ _) _
    have hb5 := hb.trans (hl.mono hb.size)
    exact hK.out _ _ ⟨A, B, M, F, v8, v9, v27, v28, v29, v30, v31, v32, v33, v34, .agg #[.int .i64 1, .int .u64 cb, .int .u64 ct, .int .u64 ca, .int .i64 cp, .int .i64 cy, .bool cg], .slice (some ⟨w.heap.size, 0, none⟩) 1 1, v37, v38, v39, (by simp only [Act.put, List.setIfInBounds_toArray, List.set_cons_zero, List.set_cons_succ]), hb5, fun h => h0 (dn h rfl), fun h => h1 (dn h rfl), fun h => h2 (dn h rfl), fun h => h3 (dn h rfl), fun h => h4 (dn h rfl), fun h => (by obtain ⟨g, q1, q2⟩ := h5 (dn h rfl); exact ⟨g, q1, boxN_below q2 hl⟩), fun h => h6 (dn h rfl), fun _ => rfl, fun _ => ⟨w.heap.size, rfl, BoxN.new w #[.int .i64 1, .int .u64 cb, .int .u64 ct, .int .u64 ca, .int .i64 cp, .int .i64 cy, .bool cg] 51⟩, fun h => ⟨(h9 (dn h rfl)).1, (h9 (dn h rfl)).2.below hl⟩, fun h => h10 (dn h rfl), fun h => h11 (dn h rfl), fun h => h12 (dn h rfl), fun h => h13 (dn h rfl), fun h => h14 (dn h rfl), fun h => (by show (_ || _) = true; rw [g10 (dn h rfl)]; rfl), fun h => (by show (_ || _) = true; rw [g11 (dn h rfl)]; rfl), fun h => (by show (_ || _) = true; rw [g12 (dn h rfl)]; rfl), fun h => (by show (_ || _) = true; rw [g13 (dn h rfl)]; rfl), fun h => (by show (_ || _) = true; rw [g14 (dn h rfl)]; rfl)⟩
  · rintro d a w hd hall ⟨A, B, M, F, v8, v9, v27, v28, v29, v30, v31, v32, v33, v34, v35, v36, v37, v38, v39, rfl, hb, h0, h1, h2, h3, h4, h5, h6, h7, h8, h9, h10, h11, h12, h13, h14, g10, g11, g12, g13, g14⟩ K' hK
    have e0 : d 0 = true := hall ⟨0, .data⟩ (by simp) rfl
    have e5 : d 5 = true := hall ⟨5, .data⟩ (by simp) rfl
    have e8 : d 8 = true := hall ⟨8, .data⟩ (by simp) rfl
    clear hall
    obtain rfl := h0 e0
    apply Exists.elim (h5 e5)
    intro x5 y5
    have z5 := y5.1
    have u5 := y5.2
    subst z5
    apply Exists.elim (h8 e8)
    intro x8 y8
    have z8 := y8.1
    have u8 := y8.2
    subst z8
    simp only [Act.put, List.setIfInBounds_toArray, List.set_cons_zero, List.set_cons_succ]
    have hN : N ≤ w.heap.size := Nat.le_trans HN.out hb.size
    have C := ms_both N w [] ⟨fun x hx => (by cases hx), List.Pairwise.nil⟩ hN runP (some ⟨x5, 0, none⟩) 3 (zxs op) (some ⟨x8, 0, none⟩) 1 [⟨1, ⟨cb, ct, ca, cp, cy, cg⟩⟩] (rd_box u5) (by show (3 : Nat) < _; decide) (rd_box u8) (by show (1 : Nat) < _; decide) fit_run (fun p hp => by rw [List.mem_singleton.1 hp]; exact HFC.out) HOK.out
    have C2 : Calls Tryz.prog 10 #[.agg #[.int .u64 0, .int .u64 2048, .int .u64 0, .int .i64 13, .int .i64 (-1), .bool true], .slice (some ⟨x5, 0, none⟩) 3 3, .slice (some ⟨x8, 0, none⟩) 1 1] w fun e W' => Below w.heap.size w W' ∧ ∃ A B M F, e = .returned (.tuple #[.pointer (some ⟨A, 0, none⟩), .pointer (some ⟨B, 0, none⟩)]) ∧ MsAt N W' ([] ++ [⟨A, M, F, bothM runP (zxs op) [⟨1, ⟨cb, ct, ca, cp, cy, cg⟩⟩]⟩]) := C
    clear C
    go_simp
    go_at_call 10
    refine C2.mono ?_; rintro e w5 ⟨hl, A', B', M', F', rfl, hms⟩
    have hb5 := hb.trans (hl.mono hb.size)
    simp only []
    go_simp
    exact hK.out _ _ ⟨A', B', M', F', v8, v9, v27, .agg #[.int .u64 0, .int .u64 2048, .int .u64 0, .int .i64 13, .int .i64 (-1), .bool true], v29, v30, v31, v32, .slice (some ⟨x5, 0, none⟩) 3 3, v34, v35, .slice (some ⟨x8, 0, none⟩) 1 1, .tuple #[.pointer (some ⟨A', 0, none⟩), .pointer (some ⟨B', 0, none⟩)], v38, v39, (by simp only [Act.put, List.setIfInBounds_toArray, List.set_cons_zero, List.set_cons_succ]), hb5, fun _ => rfl, fun h => h1 (dn h rfl), fun h => h2 (dn h rfl), fun h => h3 (dn h rfl), fun h => h4 (dn h rfl), fun _ => ⟨x5, rfl, boxN_below u5 hl⟩, fun h => h6 (dn h rfl), fun h => h7 (dn h rfl), fun _ => ⟨x8, rfl, boxN_below u8 hl⟩, fun _ => ⟨rfl, by rw [HBG.out] at hms; exact hms⟩, fun h => absurd (g10 (dn h rfl)) (by rw [hd]; decide), fun h => absurd (g11 (dn h rfl)) (by rw [hd]; decide), fun h => absurd (g12 (dn h rfl)) (by rw [hd]; decide), fun h => absurd (g13 (dn h rfl)) (by rw [hd]; decide), fun h => absurd (g14 (dn h rfl)) (by rw [hd]; decide), fun _ => (by show (_ || _) = true; simp), fun _ => (by show (_ || _) = true; simp), fun _ => (by show (_ || _) = true; simp), fun _ => (by show (_ || _) = true; simp), fun _ => (by show (_ || _) = true; simp)⟩
  · rintro d a w hd hall ⟨A, B, M, F, v8, v9, v27, v28, v29, v30, v31, v32, v33, v34, v35, v36, v37, v38, v39, rfl, hb, h0, h1, h2, h3, h4, h5, h6, h7, h8, h9, h10, h11, h12, h13, h14, g10, g11, g12, g13, g14⟩ K' hK
    have e9 : d 9 = true := hall ⟨9, .data⟩ (by simp) rfl
    clear hall
    have z9 := (h9 e9).1
    subst z9
    simp only [Act.put, List.setIfInBounds_toArray, List.set_cons_zero, List.set_cons_succ]
    go_simp
    exact hK.out _ _ ⟨A, B, M, F, v8, v9, .tuple #[.pointer (some ⟨A, 0, none⟩), .pointer (some ⟨B, 0, none⟩)], v28, v29, v30, v31, v32, v33, v34, v35, v36, .tuple #[.pointer (some ⟨A, 0, none⟩), .pointer (some ⟨B, 0, none⟩)], v38, v39, (by simp only [Act.put, List.setIfInBounds_toArray, List.set_cons_zero, List.set_cons_succ]), hb, fun h => h0 (dn h rfl), fun h => h1 (dn h rfl), fun h => h2 (dn h rfl), fun h => h3 (dn h rfl), fun h => h4 (dn h rfl), fun h => h5 (dn h rfl), fun h => h6 (dn h rfl), fun h => h7 (dn h rfl), fun h => h8 (dn h rfl), fun _ => ⟨rfl, (h9 e9).2⟩, fun _ => rfl, fun h => h11 (dn h rfl), fun h => h12 (dn h rfl), fun h => h13 (dn h rfl), fun h => h14 (dn h rfl), fun _ => (by show (_ || _) = true; rw [e9]; rfl), fun h => (by show (_ || _) = true; rw [g11 (dn h rfl)]; rfl), fun h => (by show (_ || _) = true; rw [g12 (dn h rfl)]; rfl), fun h => (by show (_ || _) = true; rw [g13 (dn h rfl)]; rfl), fun h => (by show (_ || _) = true; rw [g14 (dn h rfl)]; rfl)⟩
  · rintro d a w hd hall ⟨A, B, M, F, v8, v9, v27, v28, v29, v30, v31, v32, v33, v34, v35, v36, v37, v38, v39, rfl, hb, h0, h1, h2, h3, h4, h5, h6, h7, h8, h9, h10, h11, h12, h13, h14, g10, g11, g12, g13, g14⟩ K' hK
    have e10 : d 10 = true := hall ⟨10, .data⟩ (by simp) rfl
    clear hall
    have e9 : d 9 = true := g10 e10
    obtain rfl := h10 e10
    have z9 := (h9 e9).1
    subst z9
    simp only [Act.put, List.setIfInBounds_toArray, List.set_cons_zero, List.set_cons_succ]
    go_simp
    exact hK.out _ _ ⟨A, B, M, F, v8, v9, .tuple #[.pointer (some ⟨A, 0, none⟩), .pointer (some ⟨B, 0, none⟩)], v28, v29, v30, v31, v32, v33, v34, v35, v36, .tuple #[.pointer (some ⟨A, 0, none⟩), .pointer (some ⟨B, 0, none⟩)], .pointer (some ⟨A, 0, none⟩), v39, (by simp only [Act.put, List.setIfInBounds_toArray, List.set_cons_zero, List.set_cons_succ]), hb, fun h => h0 (dn h rfl), fun h => h1 (dn h rfl), fun h => h2 (dn h rfl), fun h => h3 (dn h rfl), fun h => h4 (dn h rfl), fun h => h5 (dn h rfl), fun h => h6 (dn h rfl), fun h => h7 (dn h rfl), fun h => h8 (dn h rfl), fun _ => ⟨rfl, (h9 e9).2⟩, fun _ => rfl, fun _ => rfl, fun h => h12 (dn h rfl), fun h => h13 (dn h rfl), fun h => h14 (dn h rfl), fun h => (by show (_ || _) = true; rw [g10 (dn h rfl)]; rfl), fun _ => (by show (_ || _) = true; rw [g10 e10]; rfl), fun h => (by show (_ || _) = true; rw [g12 (dn h rfl)]; rfl), fun h => (by show (_ || _) = true; rw [g13 (dn h rfl)]; rfl), fun h => (by show (_ || _) = true; rw [g14 (dn h rfl)]; rfl)⟩
  · rintro d a w hd hall ⟨A, B, M, F, v8, v9, v27, v28, v29, v30, v31, v32, v33, v34, v35, v36, v37, v38, v39, rfl, hb, h0, h1, h2, h3, h4, h5, h6, h7, h8, h9, h10, h11, h12, h13, h14, g10, g11, g12, g13, g14⟩ K' hK
    have e10 : d 10 = true := hall ⟨10, .data⟩ (by simp) rfl
    clear hall
    have e9 : d 9 = true := g10 e10
    obtain rfl := h10 e10
    have z9 := (h9 e9).1
    subst z9
    simp only [Act.put, List.setIfInBounds_toArray, List.set_cons_zero, List.set_cons_succ]
    go_simp
    exact hK.out _ _ ⟨A, B, M, F, v8, v9, .tuple #[.pointer (some ⟨A, 0, none⟩), .pointer (some ⟨B, 0, none⟩)], v28, v29, v30, v31, v32, v33, v34, v35, v36, .tuple #[.pointer (some ⟨A, 0, none⟩), .pointer (some ⟨B, 0, none⟩)], v38, .pointer (some ⟨B, 0, none⟩), (by simp only [Act.put, List.setIfInBounds_toArray, List.set_cons_zero, List.set_cons_succ]), hb, fun h => h0 (dn h rfl), fun h => h1 (dn h rfl), fun h => h2 (dn h rfl), fun h => h3 (dn h rfl), fun h => h4 (dn h rfl), fun h => h5 (dn h rfl), fun h => h6 (dn h rfl), fun h => h7 (dn h rfl), fun h => h8 (dn h rfl), fun _ => ⟨rfl, (h9 e9).2⟩, fun _ => rfl, fun h => h11 (dn h rfl), fun _ => rfl, fun h => h13 (dn h rfl), fun h => h14 (dn h rfl), fun h => (by show (_ || _) = true; rw [g10 (dn h rfl)]; rfl), fun h => (by show (_ || _) = true; rw [g11 (dn h rfl)]; rfl), fun _ => (by show (_ || _) = true; rw [g10 e10]; rfl), fun h => (by show (_ || _) = true; rw [g13 (dn h rfl)]; rfl), fun h => (by show (_ || _) = true; rw [g14 (dn h rfl)]; rfl)⟩
  · rintro d a w hd hall ⟨A, B, M, F, v8, v9, v27, v28, v29, v30, v31, v32, v33, v34, v35, v36, v37, v38, v39, rfl, hb, h0, h1, h2, h3, h4, h5, h6, h7, h8, h9, h10, h11, h12, h13, h14, g10, g11, g12, g13, g14⟩ K' hK
    have e11 : d 11 = true := hall ⟨11, .data⟩ (by simp) rfl
    have e9 : d 9 = true := hall ⟨9, .chain⟩ (by simp) rfl
    clear hall
    obtain rfl := h11 e11
    have z9 := (h9 e9).1
    subst z9
    simp only [Act.put, List.setIfInBounds_toArray, List.set_cons_zero, List.set_cons_succ]
    go_simp
    exact hK.out _ _ ⟨A, B, M, F, .pointer (some ⟨A, 0, none⟩), v9, v27, v28, v29, v30, v31, v32, v33, v34, v35, v36, .tuple #[.pointer (some ⟨A, 0, none⟩), .pointer (some ⟨B, 0, none⟩)], .pointer (some ⟨A, 0, none⟩), v39, (by simp only [Act.put, List.setIfInBounds_toArray, List.set_cons_zero, List.set_cons_succ]), hb, fun h => h0 (dn h rfl), fun h => h1 (dn h rfl), fun h => h2 (dn h rfl), fun h => h3 (dn h rfl), fun h => h4 (dn h rfl), fun h => h5 (dn h rfl), fun h => h6 (dn h rfl), fun h => h7 (dn h rfl), fun h => h8 (dn h rfl), fun _ => ⟨rfl, (h9 e9).2⟩, fun h => h10 (dn h rfl), fun _ => rfl, fun h => h12 (dn h rfl), fun _ => rfl, fun h => h14 (dn h rfl), fun h => (by show (_ || _) = true; rw [g10 (dn h rfl)]; rfl), fun h => (by show (_ || _) = true; rw [g11 (dn h rfl)]; rfl), fun h => (by show (_ || _) = true; rw [g12 (dn h rfl)]; rfl), fun _ => (by show (_ || _) = true; rw [g11 e11]; rfl), fun h => (by show (_ || _) = true; rw [g14 (dn h rfl)]; rfl)⟩
  · rintro d a w hd hall ⟨A, B, M, F, v8, v9, v27, v28, v29, v30, v31, v32, v33, v34, v35, v36, v37, v38, v39, rfl, hb, h0, h1, h2, h3, h4, h5, h6, h7, h8, h9, h10, h11, h12, h13, h14, g10, g11, g12, g13, g14⟩ K' hK
    have e12 : d 12 = true := hall ⟨12, .data⟩ (by simp) rfl
    have e13 : d 13 = true := hall ⟨13, .chain⟩ (by simp) rfl
    clear hall
    have e9 : d 9 = true := g12 e12
    obtain rfl := h12 e12
    obtain rfl := h13 e13
    have z9 := (h9 e9).1
    subst z9
    simp only [Act.put, List.setIfInBounds_toArray, List.set_cons_zero, List.set_cons_succ]
    go_simp
    exact hK.out _ _ ⟨A, B, M, F, .pointer (some ⟨A, 0, none⟩), .pointer (some ⟨B, 0, none⟩), v27, v28, v29, v30, v31, v32, v33, v34, v35, v36, .tuple #[.pointer (some ⟨A, 0, none⟩), .pointer (some ⟨B, 0, none⟩)], v38, .pointer (some ⟨B, 0, none⟩), (by simp only [Act.put, List.setIfInBounds_toArray, List.set_cons_zero, List.set_cons_succ]), hb, fun h => h0 (dn h rfl), fun h => h1 (dn h rfl), fun h => h2 (dn h rfl), fun h => h3 (dn h rfl), fun h => h4 (dn h rfl), fun h => h5 (dn h rfl), fun h => h6 (dn h rfl), fun h => h7 (dn h rfl), fun h => h8 (dn h rfl), fun _ => ⟨rfl, (h9 e9).2⟩, fun h => h10 (dn h rfl), fun h => h11 (dn h rfl), fun _ => rfl, fun _ => rfl, fun _ => rfl, fun h => (by show (_ || _) = true; rw [g10 (dn h rfl)]; rfl), fun h => (by show (_ || _) = true; rw [g11 (dn h rfl)]; rfl), fun h => (by show (_ || _) = true; rw [g12 (dn h rfl)]; rfl), fun h => (by show (_ || _) = true; rw [g13 (dn h rfl)]; rfl), fun _ => (by show (_ || _) = true; rw [g12 e12]; rfl)⟩
  · rintro d a w hl ⟨A, B, M, F, v8, v9, v27, v28, v29, v30, v31, v32, v33, v34, v35, v36, v37, v38, v39, rfl, hb, h0, h1, h2, h3, h4, h5, h6, h7, h8, h9, h10, h11, h12, h13, h14, g10, g11, g12, g13, g14⟩
    have dd : ∀ i, i < 15 → d i = true := hl
    obtain rfl := h13 (dd 13 (by decide))
    obtain rfl := h14 (dd 14 (by decide))
    have hms := (h9 (dd 9 (by decide))).2
    have HM7 := Lib.hid hms
    have HB7 := Lib.hid (HB6.out.trans (hb.mono HB6.out.size))
    have HC7 := Lib.hid (boxN_below HC6.out hb)
    have HNT7 := Lib.hid (HNT6.out.on hb)
    clear h0 h1 h2 h3 h4 h5 h6 h7 h8 h9 h10 h11 h12 h13 h14 g10 g11 g12 g13 g14 hl dd hms hb HB6 HC6 HNT6
    simp only [Act.put, List.setIfInBounds_toArray, List.set_cons_zero, List.set_cons_succ]
    go_upto_region 9 with fail
    obtain ⟨rs0, hrs0⟩ : ∃ r, (List.replicate 32 nullC).set 1 ⟨cb, ct, ca, cp, cy, cg⟩ = r := ⟨_, rfl⟩
    obtain ⟨mm, hmm⟩ : ∃ r, (codeF (zxs op)).1 = r := ⟨_, rfl⟩
    have hz := fun rs => zero_steps op HO.out.1 HO.out.2 HK.out rs
    rw [hmm] at hz
    have hb0 := (HBG.out.symm.trans (zero_begin op ⟨cb, ct, ca, cp, cy, cg⟩))
    rw [hrs0, hmm] at hb0
    have hm7 := HM7.out.all ⟨A, M, F, s0⟩ (by simp)
    simp only [] at hm7
    rw [hb0] at hm7
    have h32 : rs0.length = 32 := hm7.mc.len
    have hl0 : 0 < rs0.length := by omega
    obtain ⟨a0, a1, a2, a3, a4, a5⟩ := range6 (hm7.mc.reg 0 hl0)
    obtain ⟨f0, f1, f2, f3, f4, f5⟩ := there6 (hm7.mc.regThere 0 hl0)
    obtain ⟨d0, hd0⟩ : ∃ c, rs0[0] = c := ⟨_, rfl⟩
    rw [hd0] at a0 a1 a2 a3 a4 a5
    obtain ⟨db, dt, da, dp, dy, dg⟩ := d0
    simp only [Nat.zero_mul, Nat.add_zero] at a0 a1 a2 a3 a4 a5 f0 f1 f2 f3 f4 f5
    obtain ⟨⟨c0, c1, c2, c3, c4, c5⟩, -⟩ := boxN6 HC7.out
    have hset := hm7.mc.setReg 0 hl0 ⟨cb, ct, ca, cp, cy, cg⟩
    have hkp : KP w.heap.size (fun b => b = A) w (w.setCells A (6 + 0 * 6) (capC ⟨cb, ct, ca, cp, cy, cg⟩)) := kp_setCells (S := fun b => b = A) A (Or.inr rfl) _ _ w (KP.refl _ _ _)
    have hfit : ∀ c ∈ rs0.set 0 ⟨cb, ct, ca, cp, cy, cg⟩, FitC c := fun d hd => by
      rcases List.mem_or_eq_of_mem_set hd with q | q
      · exact hm7.frs d q
      · rw [q]; exact HFC.out
    obtain ⟨h9a, h9b⟩ := hm7.mach hset hkp hm7.fpc hfit
    have hc9 := HC7.out.kp hkp HC7.out.lt (fun e => by have := hm7.na; have := HNW.out; omega)
    have hnt9 := NT_mv HNT7.out hm7 h9b HG2.out.1 HG2.out.2
    have hbn9 : Below N w (w.setCells A (6 + 0 * 6) (capC ⟨cb, ct, ca, cp, cy, cg⟩)) := h9b.belowN hm7
    rw [show capC ⟨cb, ct, ca, cp, cy, cg⟩ = [.int .u64 cb, .int .u64 ct, .int .u64 ca, .int .i64 cp, .int .i64 cy, .bool cg] from rfl, show 6 + 0 * 6 = 6 from rfl, set6_eq w] at h9a hc9 hnt9 hbn9
    obtain ⟨rs1, hrs1⟩ : ∃ r, rs0.set 0 ⟨cb, ct, ca, cp, cy, cg⟩ = r := ⟨_, rfl⟩
    rw [hrs1] at h9a
    have HM9 := Lib.hid (h9a.below (Below.drew (Below.refl _ _)))
    have HC9 := Lib.hid (boxN_below hc9 (Below.drew (Below.refl _ _)))
    have HNT9 := Lib.hid (hnt9.on (Below.drew (Below.refl _ _)))
    have HB9 := Lib.hid ((HB7.out.trans (hbn9.mono (by have := HNW.out; omega))).trans (Below.drew (Below.refl _ _)))
    have HRS : Hid (rs1 = rs0.set 0 ⟨cb, ct, ca, cp, cy, cg⟩ ∧ rs0 = (List.replicate 32 nullC).set 1 ⟨cb, ct, ca, cp, cy, cg⟩) := Lib.hid ⟨hrs1.symm, hrs0.symm⟩
    have HZ := Lib.hid hz
    clear hset hkp hfit h9a h9b hc9 hnt9 hbn9 hrs1 hrs0 hmm hz hb0 hd0 hm7 h32 hl0 HM7 HB7 HC7 HNT7
    go_region_law (fail)
    obtain ⟨w9, hw9⟩ : ∃ x, ((((((w.setCell ⟨A, 6, none⟩ (.int .u64 cb)).setCell ⟨A, 6 + 1, none⟩ (.int .u64 ct)).setCell ⟨A, 6 + 2, none⟩ (.int .u64 ca)).setCell ⟨A, 6 + 3, none⟩ (.int .i64 cp)).setCell ⟨A, 6 + 4, none⟩ (.int .i64 cy)).setCell ⟨A, 6 + 5, none⟩ (.bool cg)).drew = x := ⟨_, rfl⟩
    rw [hw9] at HM9 HC9 HNT9 HB9
    have hw9' : ((((((w.setCell ⟨A, 6, none⟩ (.int .u64 cb)).setCell ⟨A, 7, none⟩ (.int .u64 ct)).setCell ⟨A, 8, none⟩ (.int .u64 ca)).setCell ⟨A, 9, none⟩ (.int .i64 cp)).setCell ⟨A, 10, none⟩ (.int .i64 cy)).setCell ⟨A, 11, none⟩ (.bool cg)).drew = w9 := hw9
    rw [hw9']
    clear hw9 hw9' a0 a1 a2 a3 a4 a5 f0 f1 f2 f3 f4 f5 c0 c1 c2 c3 c4 c5
    have CS := Lib.hid (step_any w9 N A M F ⟨pcAt 0, rs1, mm⟩ HM9.out HNT9.out)
    rw [(HZ.out rs1).1] at CS
    simp only [] at CS
    go_wp2_with fail
    refine CS.out.mono ?_; rintro e w10 ⟨rfl, F1, hm, mv⟩
    have HB10 := Lib.hid (HB9.out.trans ((mv.belowN HM9.out).mono (by have := HNW.out; omega)))
    have HC10 := Lib.hid (HC9.out.below (mv.belowN HM9.out) (by have := HNW.out; omega))
    have HNT10 := Lib.hid (NT_mv HNT9.out HM9.out mv HG2.out.1 HG2.out.2)
    have HM10 := Lib.hid hm
    clear hm mv CS HB9 HC9 HNT9 HM9
    have CS := Lib.hid (step_any w10 N A M F1 ⟨pcAt 4, rs1, mm⟩ HM10.out HNT10.out)
    rw [(HZ.out rs1).2.1] at CS
    simp only [] at CS
    go_wp2_with fail
    refine CS.out.mono ?_; rintro e w11 ⟨rfl, F2, hm, mv⟩
    have HB11 := Lib.hid (HB10.out.trans ((mv.belowN HM10.out).mono (by have := HNW.out; omega)))
    have HC11 := Lib.hid (HC10.out.below (mv.belowN HM10.out) (by have := HNW.out; omega))
    have HNT11 := Lib.hid (NT_mv HNT10.out HM10.out mv HG2.out.1 HG2.out.2)
    have HM11 := Lib.hid hm
    clear hm mv CS HB10 HC10 HNT10 HM10
    have CS := Lib.hid (step_any w11 N A M F2 ⟨pcAt 8, (rs1.set 2 nullC), mm⟩ HM11.out HNT11.out)
    rw [(HZ.out (rs1.set 2 nullC)).2.2] at CS
    simp only [] at CS
    go_wp2_with fail
    refine CS.out.mono ?_; rintro e w12 ⟨rfl, F3, hm, mv⟩
    have HB12 := Lib.hid (HB11.out.trans ((mv.belowN HM11.out).mono (by have := HNW.out; omega)))
    have HC12 := Lib.hid (HC11.out.below (mv.belowN HM11.out) (by have := HNW.out; omega))
    have HNT12 := Lib.hid (NT_mv HNT11.out HM11.out mv HG2.out.1 HG2.out.2)
    have HM12 := Lib.hid hm
    clear hm mv CS HB11 HC11 HNT11 HM11
    go_wp2_with fail
    refine (rint_any 0 _).mono ?_; rintro e w13 ⟨rfl, hb13⟩
    go_upto_region 14 with fail
    obtain ⟨w14, hw14⟩ : ∃ x, w13.alloc (.cells #[.int .u64 0, .int .u64 0, .int .u64 0, .int .i64 0, .int .i64 (-1), .bool false] 24) = x := ⟨_, rfl⟩
    have hx14 : BoxN w14 w13.heap.size #[.int .u64 0, .int .u64 0, .int .u64 0, .int .i64 0, .int .i64 (-1), .bool false] := by rw [← hw14]; exact BoxN.new _ _ _
    have hba : Below w12.heap.size w12 w14 := hb13.trans ((show Below w13.heap.size w13 w14 by rw [← hw14]; exact bAlloc (Below.refl _ _) _).mono hb13.size)
    have hbd : Below w14.heap.size w14 w14.drew := Below.drew (Below.refl _ _)
    have hbe := hba.trans (hbd.mono hba.size)
    have HBE := Lib.hid (HB12.out.trans (hbe.mono HB12.out.size))
    have hm14 := HM12.out.below hbe
    have h32 : ((rs1.set 2 nullC).set 3 nullC).length = 32 := hm14.mc.len
    have e2 : ((rs1.set 2 nullC).set 3 nullC)[2]? = some nullC := by
      have h3 : rs1.length = 32 := by simpa using h32
      rw [List.getElem?_set_ne (by decide), List.getElem?_set_self (by omega)]
    have e3 : ((rs1.set 2 nullC).set 3 nullC)[3]? = some nullC := by
      have h3 : rs1.length = 32 := by simpa using h32
      rw [List.getElem?_set_self (by simp; omega)]
    have e1 : ((rs1.set 2 nullC).set 3 nullC)[1]? = some ⟨cb, ct, ca, cp, cy, cg⟩ := by
      rw [List.getElem?_set_ne (by decide), List.getElem?_set_ne (by decide), HRS.out.1, List.getElem?_set_ne (by decide), HRS.out.2, List.getElem?_set_self (by simp)]
    have reg : ∀ (i : Nat) (c : Cp) (hi : i < 32), ((rs1.set 2 nullC).set 3 nullC)[i]? = some c → w14.drew.rangeAt A (6 + i * 6) (capC c) := fun i c hi h => by
      have hi2 : i < ((rs1.set 2 nullC).set 3 nullC).length := by rw [h32]; exact hi
      have := hm14.mc.reg i hi2
      rw [List.getElem?_eq_getElem hi2] at h
      rw [Option.some.inj h] at this
      exact this
    obtain ⟨p0, p1, p2, p3, p4, p5⟩ := range6 (reg 2 _ (by decide) e2)
    obtain ⟨q0, q1, q2, q3, q4, q5⟩ := range6 (reg 3 _ (by decide) e3)
    obtain ⟨r0, r1, r2, r3, r4, r5⟩ := range6 (reg 1 _ (by decide) e1)
    obtain ⟨⟨c0, c1, c2, c3, c4, c5⟩, -⟩ := boxN6 (boxN_below HC12.out hbe)
    obtain ⟨B13, hB13⟩ : ∃ x, w13.heap.size = x := ⟨_, rfl⟩
    rw [hB13] at hx14
    obtain ⟨⟨i0, i1, i2, i3, i4, i5⟩, -⟩ := boxN6 (boxN_below hx14 hbd)
    have HSd : Hid (w14.drew.cell? ⟨A, 18, none⟩ = some (.int .u64 0) ∧ w14.drew.cell? ⟨A, 19, none⟩ = some (.int .u64 0) ∧ w14.drew.cell? ⟨A, 20, none⟩ = some (.int .u64 0) ∧ w14.drew.cell? ⟨A, 21, none⟩ = some (.int .i64 0) ∧ w14.drew.cell? ⟨A, 22, none⟩ = some (.int .i64 (-1)) ∧ w14.drew.cell? ⟨A, 23, none⟩ = some (.bool false) ∧ w14.drew.cell? ⟨A, 24, none⟩ = some (.int .u64 0) ∧ w14.drew.cell? ⟨A, 25, none⟩ = some (.int .u64 0) ∧ w14.drew.cell? ⟨A, 26, none⟩ = some (.int .u64 0) ∧ w14.drew.cell? ⟨A, 27, none⟩ = some (.int .i64 0) ∧ w14.drew.cell? ⟨A, 28, none⟩ = some (.int .i64 (-1)) ∧ w14.drew.cell? ⟨A, 29, none⟩ = some (.bool false) ∧ w14.drew.cell? ⟨A, 12, none⟩ = some (.int .u64 cb) ∧ w14.drew.cell? ⟨A, 13, none⟩ = some (.int .u64 ct) ∧ w14.drew.cell? ⟨A, 14, none⟩ = some (.int .u64 ca) ∧ w14.drew.cell? ⟨A, 15, none⟩ = some (.int .i64 cp) ∧ w14.drew.cell? ⟨A, 16, none⟩ = some (.int .i64 cy) ∧ w14.drew.cell? ⟨A, 17, none⟩ = some (.bool cg) ∧ w14.drew.cell? ⟨B13, 0, none⟩ = some (.int .u64 0) ∧ w14.drew.cell? ⟨B13, 1, none⟩ = some (.int .u64 0) ∧ w14.drew.cell? ⟨B13, 2, none⟩ = some (.int .u64 0) ∧ w14.drew.cell? ⟨B13, 3, none⟩ = some (.int .i64 0) ∧ w14.drew.cell? ⟨B13, 4, none⟩ = some (.int .i64 (-1)) ∧ w14.drew.cell? ⟨B13, 5, none⟩ = some (.bool false) ∧ w14.drew.cell? ⟨W.heap.size, 0, none⟩ = some (.int .u64 cb) ∧ w14.drew.cell? ⟨W.heap.size, 1, none⟩ = some (.int .u64 ct) ∧ w14.drew.cell? ⟨W.heap.size, 2, none⟩ = some (.int .u64 ca) ∧ w14.drew.cell? ⟨W.heap.size, 3, none⟩ = some (.int .i64 cp) ∧ w14.drew.cell? ⟨W.heap.size, 4, none⟩ = some (.int .i64 cy) ∧ w14.drew.cell? ⟨W.heap.size, 5, none⟩ = some (.bool cg)) := Lib.hid ⟨p0, p1, p2, p3, p4, p5, q0, q1, q2, q3, q4, q5, r0, r1, r2, r3, r4, r5, i0, i1, i2, i3, i4, i5, c0, c1, c2, c3, c4, c5⟩
    have heq : ∀ Wq, (binOp .eql 24 (.agg #[.int .u64 cb, .int .u64 ct, .int .u64 ca, .int .i64 cp, .int .i64 cy, .bool cg]) (.agg #[.int .u64 cb, .int .u64 ct, .int .u64 ca, .int .i64 cp, .int .i64 cy, .bool cg])).run Tryz.prog Wq = .ok (.bool true) Wq := fun Wq => cap_eql Wq ⟨cb, ct, ca, cp, cy, cg⟩
    have heq0 : ∀ Wq, (binOp .eql 24 (.agg #[.int .u64 0, .int .u64 0, .int .u64 0, .int .i64 0, .int .i64 (-1), .bool false]) (.agg #[.int .u64 0, .int .u64 0, .int .u64 0, .int .i64 0, .int .i64 (-1), .bool false])).run Tryz.prog Wq = .ok (.bool true) Wq := fun Wq => cap_eql Wq nullC
    rw [hw14, hB13]
    clear hw14 hx14 hba hbd hbe hm14 h32 e1 e2 e3 reg hB13 hb13 HB12 HC12 HNT12 HM12 p0 p1 p2 p3 p4 p5 q0 q1 q2 q3 q4 q5 r0 r1 r2 r3 r4 r5 c0 c1 c2 c3 c4 c5 i0 i1 i2 i3 i4 i5
    go_region_held3 (fun W1 => W1.cell? ⟨A, 18, none⟩ = some (.int .u64 0) ∧ W1.cell? ⟨A, 19, none⟩ = some (.int .u64 0) ∧ W1.cell? ⟨A, 20, none⟩ = some (.int .u64 0) ∧ W1.cell? ⟨A, 21, none⟩ = some (.int .i64 0) ∧ W1.cell? ⟨A, 22, none⟩ = some (.int .i64 (-1)) ∧ W1.cell? ⟨A, 23, none⟩ = some (.bool false) ∧ W1.cell? ⟨A, 24, none⟩ = some (.int .u64 0) ∧ W1.cell? ⟨A, 25, none⟩ = some (.int .u64 0) ∧ W1.cell? ⟨A, 26, none⟩ = some (.int .u64 0) ∧ W1.cell? ⟨A, 27, none⟩ = some (.int .i64 0) ∧ W1.cell? ⟨A, 28, none⟩ = some (.int .i64 (-1)) ∧ W1.cell? ⟨A, 29, none⟩ = some (.bool false) ∧ W1.cell? ⟨A, 12, none⟩ = some (.int .u64 cb) ∧ W1.cell? ⟨A, 13, none⟩ = some (.int .u64 ct) ∧ W1.cell? ⟨A, 14, none⟩ = some (.int .u64 ca) ∧ W1.cell? ⟨A, 15, none⟩ = some (.int .i64 cp) ∧ W1.cell? ⟨A, 16, none⟩ = some (.int .i64 cy) ∧ W1.cell? ⟨A, 17, none⟩ = some (.bool cg) ∧ W1.cell? ⟨B13, 0, none⟩ = some (.int .u64 0) ∧ W1.cell? ⟨B13, 1, none⟩ = some (.int .u64 0) ∧ W1.cell? ⟨B13, 2, none⟩ = some (.int .u64 0) ∧ W1.cell? ⟨B13, 3, none⟩ = some (.int .i64 0) ∧ W1.cell? ⟨B13, 4, none⟩ = some (.int .i64 (-1)) ∧ W1.cell? ⟨B13, 5, none⟩ = some (.bool false) ∧ W1.cell? ⟨W.heap.size, 0, none⟩ = some (.int .u64 cb) ∧ W1.cell? ⟨W.heap.size, 1, none⟩ = some (.int .u64 ct) ∧ W1.cell? ⟨W.heap.size, 2, none⟩ = some (.int .u64 ca) ∧ W1.cell? ⟨W.heap.size, 3, none⟩ = some (.int .i64 cp) ∧ W1.cell? ⟨W.heap.size, 4, none⟩ = some (.int .i64 cy) ∧ W1.cell? ⟨W.heap.size, 5, none⟩ = some (.bool cg))
      (first | with_reducible exact HSd.out)
      (fail)
    go_wp2_with fail
    go_ret
    exact ⟨rfl, HBE.out⟩
end Go.Proofs.YtegoddghfjfibaaGreatDoor

