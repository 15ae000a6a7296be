/- The document's texts: numbers, registers, an instruction. -/
import Derived.Laws.IdiomStrings
import Derived.Test.YtdpmihlmfephiaaGreatDoorAs6
import Derived.Test.YtdpmihlmfephiaaGreatDoorIsaK
import Derived.Test.YtdpmihlmfephiaaGreatDoorIsaZ
namespace Go.Proofs.YtdpmihlmfephiaaGreatDoor
set_option linter.unusedVariables false
set_option linter.unusedSimpArgs false
open Go.Joins Go.ChangeShapes Go.WideShapes Go.ChangeAt Go.RowKit Go.Deep

theorem dec_two (u : Nat) (h : ¬ u < 10) : Lib.decDigits (u / 10) ++ Lib.decDigits (u % 10) = Lib.decDigits u := by
  rw [Lib.decDigits_one (show u % 10 < 10 by omega)]
  conv => rhs; rw [Lib.decDigits, dif_neg h]
theorem digs_le (u : Nat) (h : u < 9223372036854775808) : (Lib.decDigits u).length ≤ 21 := by
  have := Lib.itoa_length_le (u : Int) (by omega) (by omega)
  rw [itoa_nat] at this
  omega
set_option maxRecDepth 100000 in
theorem rdig_small (u : Nat) (hs : u < 10) (w : World) :
    Calls Tryz.prog 85 #[.int .u64 u] w fun e w' => e = .returned (.string ⟨(Lib.decDigits u).toArray⟩) ∧ Below w.heap.size w w' := by
  have hs' : decide (u < 10) = true := decide_eq_true hs
  have hcv : (convert 32 9 (.slice (some ⟨w.heap.size, 0, none⟩) 1 1)).run Tryz.prog (w.alloc (.cells #[.int .u8 (48 + (u : Int))] 5)) = .ok (.string ⟨(Lib.decDigits u).toArray⟩) (w.alloc (.cells #[.int .u8 (48 + (u : Int))] 5)) := by
    have hd := Lib.decDigits_one hs
    have h := run_convert_bytes_back (P := Tryz.prog) (w.alloc (.cells #[.int .u8 (48 + (u : Int))] 5)) 32 9 5 ⟨w.heap.size, 0, none⟩ 1 (Lib.decDigits u) Tryz.underlying32 Tryz.underlying5 Tryz.underlying9 (fun j hj => by
      rw [hd] at hj
      obtain rfl : j = 0 := by simpa using hj
      simp only [hd, Addr.add, List.getElem_cons_zero, if_true]
      rw [World.cell?_alloc_new]
      have : ((UInt8.ofNat (48 + u)).toNat : Int) = 48 + (u : Int) := by rw [UInt8.toNat_ofNat']; omega
      simp [this]; omega)
    have hl : (Lib.decDigits u).length = 1 := by rw [hd]; rfl
    rw [hl] at h
    exact h
  go_enter Tryz.func85, Tryz.ntmps85
  go_wp2_with fail
  go_ret
  exact ⟨rfl, bAlloc (Below.refl _ _) _⟩
set_option maxRecDepth 8000 in
theorem rdig_any (k : Nat) : ∀ (u : Nat) (w : World), u ≤ k → u ≤ 9223372036854775808 →
    Calls Tryz.prog 85 #[.int .u64 u] w fun e w' => e = .returned (.string ⟨(Lib.decDigits u).toArray⟩) ∧ Below w.heap.size w w' := by
  induction k with
  | zero => exact fun u w hk hu => rdig_small u (by omega) w
  | succ k ih =>
    intro u w hk hu
    by_cases hs : u < 10
    · exact rdig_small u hs w
    · have hs' : decide (u < 10) = false := decide_eq_false hs
      have e1 : ((u : Int) / 10) = ((u / 10 : Nat) : Int) := rfl
      have e2 : ((u : Int) % 10) = ((u % 10 : Nat) : Int) := rfl
      have l1 := digs_le (u / 10) (by omega)
      have l2 := digs_le (u % 10) (by omega)
      have k1 := add_l (Lib.decDigits (u / 10)) (Lib.decDigits (u % 10)) (Lib.decDigits u) (dec_two u hs) (by omega) (by omega)
      have K1 := Lib.hid k1
      have E2 := Lib.hid e2
      have E1 := Lib.hid e1
      have IH := Lib.hid ih
      clear k1 l1 l2 e2 e1 ih
      go_enter Tryz.func85, Tryz.ntmps85
      go_wp2_with fail
      rw [E1.out]
      refine (IH.out (u / 10) _ (by omega) (by omega)).mono ?_; rintro e w1 ⟨rfl, hb⟩
      have HB1 := Lib.hid hb
      clear hb
      go_wp2_with fail
      rw [E2.out]
      refine (rdig_small (u % 10) (by omega) _).mono ?_; rintro e w2 ⟨rfl, hb⟩
      have HB2 := Lib.hid (bTrans HB1.out hb)
      clear hb
      have k1 := K1.out
      go_wp2_with fail
      go_ret
      exact ⟨rfl, HB2.out⟩
theorem rnum_any (n : Int) (w : World) (h0 : -4294967296 ≤ n) (h1 : n ≤ 4294967296) :
    Calls Tryz.prog 49 #[.int .i64 n] w fun e w' => e = .returned (.string ⟨(Lib.itoa n).toArray⟩) ∧ Below w.heap.size w w' := by
  rcases itoa_cases n with ⟨u, rfl, hu⟩ | ⟨u, hp, rfl, hu⟩
  · rw [hu]
    have hd : decide ((u : Int) < 0) = false := decide_eq_false (by omega)
    have hn : ¬ (u : Int) < 0 := by omega
    have hw : IntKind.u64.wrap (u : Int) = (u : Int) := wrap_nat u (by omega)
    have HC := Lib.hid (fun W => rdig_any u u W (Nat.le_refl _) (by omega))
    clear hu h0 h1
    go_enter Tryz.func49, Tryz.ntmps49
    go_wp2_with (go_at_call 85; refine (HC.out _).mono ?_; rintro e w1 ⟨rfl, hb⟩; have HB := Lib.hid hb; clear hb)
    go_ret
    exact ⟨rfl, HB.out⟩
  · rw [hu]
    have hd : decide (-(u : Int) < 0) = true := decide_eq_true (by omega)
    have hd2 : decide (0 < u) = true := decide_eq_true hp
    have hw : IntKind.u64.wrap (-(u : Int)) = ((18446744073709551616 - u : Nat) : Int) := by rw [IntKind.wrap_u64]; omega
    have hw2 : IntKind.u64.wrap (-((18446744073709551616 - u : Nat) : Int)) = (u : Int) := by rw [IntKind.wrap_u64]; omega
    have hl := digs_le u (by omega)
    have k1 := add_l [45] (Lib.decDigits u) (45 :: Lib.decDigits u) rfl (by decide) (by omega)
    obtain ⟨v, hv⟩ : ∃ v, 18446744073709551616 - u = v := ⟨_, rfl⟩
    rw [hv] at hw hw2
    have HC := Lib.hid (fun W => rdig_any u u W (Nat.le_refl _) (by omega))
    have HH := Lib.hid h0
    clear hu h0 h1 hv hl
    go_enter Tryz.func49, Tryz.ntmps49
    go_wp2_with (go_at_call 85; refine (HC.out _).mono ?_; rintro e w1 ⟨rfl, hb⟩; have HB := Lib.hid hb; clear hb)
    go_ret
    exact ⟨rfl, HB.out⟩
theorem rreg_any (n : Int) (w : World) (h : 0 ≤ n ∧ n < 32) :
    Calls Tryz.prog 72 #[.int .i64 n] w fun e w' => e = .returned (.string ⟨(regT n).toArray⟩) ∧ Below w.heap.size w w' := by
  have HC := Lib.hid (fun W => rnum_any n W (by omega) (by omega))
  have hl := itoa_le (n := n) (by omega) (by omega)
  have k1 := add_l [99] (Lib.itoa n) (regT n) rfl (by decide) (by omega)
  have hw : IntKind.i64.wrap n = n := by rw [IntKind.wrap_i64]; omega
  clear hl h
  go_enter Tryz.func72, Tryz.ntmps72
  go_wp2_with (go_at_call 49; refine (HC.out _).mono ?_; rintro e w1 ⟨rfl, hb⟩; have HB := Lib.hid hb; clear hb)
  go_ret
  exact ⟨rfl, HB.out⟩
theorem rof_kind (op k : Int) (hk : kindA op = k) : ∃ r2 r3 r4 r5 : Int, ∀ W : World, Calls Tryz.prog 57 #[.int .i64 op] W fun e w' => e = .returned (.agg #[.string ⟨(opN op).toArray⟩, .int .i64 k, .int .i64 r2, .int .i64 r3, .int .i64 r4, .int .i64 r5]) ∧ Below W.heap.size W w' := by
  refine ⟨(opR op).2.2.1, (opR op).2.2.2.1, (opR op).2.2.2.2.1, (opR op).2.2.2.2.2, fun W => ?_⟩
  have h := of_any op W
  unfold opV at h
  rw [kind_same, kindA_eq, hk] at h
  exact h
theorem join3 (a b c : List UInt8) : Lib.join [a, b, c] sepT = a ++ ([44, 32] ++ (b ++ ([44, 32] ++ c))) := by rw [Lib.join_cons]; simp [Lib.joinTail, sepT]
theorem join2 (a b : List UInt8) : Lib.join [a, b] sepT = a ++ ([44, 32] ++ b) := by rw [Lib.join_cons]; simp [Lib.joinTail, sepT]
def RTextP (op rd rs1 rs2 n : Int) (w : World) : Prop := Calls Tryz.prog 31 #[.agg #[.int .i64 op, .int .i64 rd, .int .i64 rs1, .int .i64 rs2, .int .i64 n]] w fun e w' => e = .returned (.string ⟨(textF op rd rs1 rs2 n).toArray⟩) ∧ Below w.heap.size w w'
set_option maxRecDepth 100000 in
set_option maxHeartbeats 2000000 in
theorem rtext_1 (op rd rs1 rs2 n : Int) (w : World) (hk : kindA op = 1) (ho : 1 ≤ op ∧ op ≤ 82) (h1 : 0 ≤ rd ∧ rd < 32) (h2 : 0 ≤ rs1 ∧ rs1 < 32) (h3 : 0 ≤ rs2 ∧ rs2 < 32) (h4 : -2147483648 ≤ n ∧ n < 2147483648) : RTextP op rd rs1 rs2 n w := by
  unfold RTextP
  have HCE := Lib.hid (fun W hb => inst_cells w W op rd rs1 rs2 n hb)
  obtain ⟨W1, hW1⟩ : ∃ W1, instW w op rd rs1 rs2 n = W1 := ⟨_, rfl⟩
  have HBW := Lib.hid (below_inst w op rd rs1 rs2 n)
  rw [hW1] at HCE HBW
  obtain ⟨r2, r3, r4, r5, hof⟩ := rof_kind op 1 hk
  have HO := Lib.hid hof
  have HN := Lib.hid (fun W => rnum_any n W (by omega) (by omega))
  have HR_rd := Lib.hid (fun W => rreg_any rd W h1)
  have HR_rs1 := Lib.hid (fun W => rreg_any rs1 W h2)
  have HR_rs2 := Lib.hid (fun W => rreg_any rs2 W h3)
  have l0 := opN_le op ho.1 ho.2
  have l1 := regT_le h1.1 h1.2
  have l2 := regT_le h2.1 h2.2
  have l3 := regT_le h3.1 h3.2
  have l4 := itoa_le (n := n) (by omega) (by omega)
  have htx : textF op rd rs1 rs2 n = opN op ++ tailT (opdF 1 rd rs1 rs2 n) := by unfold textF; rw [hk]
  rw [htx]
  rw [show opdF 1 rd rs1 rs2 n = [regT rd, regT rs1, regT rs2] from rfl, show tailT [regT rd, regT rs1, regT rs2] = 32 :: Lib.join [regT rd, regT rs1, regT rs2] sepT from rfl, join3]
  have hplace : placeT n rs1 = ((Lib.itoa n ++ [40]) ++ regT rs1) ++ [41] := by unfold placeT; simp
  have lp : (placeT n rs1).length ≤ 60 := by rw [hplace]; simp only [List.length_append, List.length_cons, List.length_nil]; omega
  obtain ⟨nm, hnm⟩ : ∃ nm, opN op = nm := ⟨_, rfl⟩
  obtain ⟨trd, htrd⟩ : ∃ t, regT rd = t := ⟨_, rfl⟩
  obtain ⟨trs1, htrs1⟩ : ∃ t, regT rs1 = t := ⟨_, rfl⟩
  obtain ⟨trs2, htrs2⟩ : ∃ t, regT rs2 = t := ⟨_, rfl⟩
  obtain ⟨tn, htn⟩ : ∃ t, Lib.itoa n = t := ⟨_, rfl⟩
  obtain ⟨tp, htp⟩ : ∃ t, placeT n rs1 = t := ⟨_, rfl⟩
  simp only [hnm, htrd, htrs1, htrs2, htn, htp] at *
  have a1 := add_l tn [40] (tn ++ [40]) rfl (by omega) (by decide)
  have a2 := add_l (tn ++ [40]) trs1 ((tn ++ [40]) ++ trs1) rfl (by simp only [List.length_append, List.length_cons, List.length_nil]; omega) (by omega)
  have a3 := add_l ((tn ++ [40]) ++ trs1) [41] tp hplace.symm (by simp only [List.length_append, List.length_cons, List.length_nil]; omega) (by decide)
  obtain ⟨x1, hx1⟩ : ∃ x, tn ++ [40] = x := ⟨_, rfl⟩
  rw [hx1] at a1 a2 a3
  obtain ⟨x2, hx2⟩ : ∃ x, x1 ++ trs1 = x := ⟨_, rfl⟩
  rw [hx2] at a2 a3
  have b0 := add_l (nm) ([32]) ((nm) ++ [32]) rfl (by first | omega | (simp only [List.length_append, List.length_cons, List.length_nil]; omega)) (by first | omega | decide)
  have b1 := add_l ((nm) ++ [32]) (trd) (((nm) ++ [32]) ++ trd) rfl (by first | omega | (simp only [List.length_append, List.length_cons, List.length_nil]; omega)) (by first | omega | decide)
  have b2 := add_l (((nm) ++ [32]) ++ trd) ([44, 32]) ((((nm) ++ [32]) ++ trd) ++ [44, 32]) rfl (by first | omega | (simp only [List.length_append, List.length_cons, List.length_nil]; omega)) (by first | omega | decide)
  have b3 := add_l ((((nm) ++ [32]) ++ trd) ++ [44, 32]) (trs1) (((((nm) ++ [32]) ++ trd) ++ [44, 32]) ++ trs1) rfl (by first | omega | (simp only [List.length_append, List.length_cons, List.length_nil]; omega)) (by first | omega | decide)
  have b4 := add_l (((((nm) ++ [32]) ++ trd) ++ [44, 32]) ++ trs1) ([44, 32]) ((((((nm) ++ [32]) ++ trd) ++ [44, 32]) ++ trs1) ++ [44, 32]) rfl (by first | omega | (simp only [List.length_append, List.length_cons, List.length_nil]; omega)) (by first | omega | decide)
  have b5 := add_l ((((((nm) ++ [32]) ++ trd) ++ [44, 32]) ++ trs1) ++ [44, 32]) (trs2) (((((((nm) ++ [32]) ++ trd) ++ [44, 32]) ++ trs1) ++ [44, 32]) ++ trs2) rfl (by first | omega | (simp only [List.length_append, List.length_cons, List.length_nil]; omega)) (by first | omega | decide)
  have hfin : ((((((nm) ++ [32]) ++ trd) ++ [44, 32]) ++ trs1) ++ [44, 32]) ++ trs2 = nm ++ 32 :: (trd ++ ([44, 32] ++ (trs1 ++ ([44, 32] ++ trs2)))) := by simp
  rw [← hfin]
  obtain ⟨y0, hy0⟩ : ∃ y, nm ++ [32] = y := ⟨_, rfl⟩
  simp only [hy0] at b0 b1 b2 b3 b4 b5 ⊢
  obtain ⟨y1, hy1⟩ : ∃ y, y0 ++ trd = y := ⟨_, rfl⟩
  simp only [hy1] at b1 b2 b3 b4 b5 ⊢
  obtain ⟨y2, hy2⟩ : ∃ y, y1 ++ [44, 32] = y := ⟨_, rfl⟩
  simp only [hy2] at b2 b3 b4 b5 ⊢
  obtain ⟨y3, hy3⟩ : ∃ y, y2 ++ trs1 = y := ⟨_, rfl⟩
  simp only [hy3] at b3 b4 b5 ⊢
  obtain ⟨y4, hy4⟩ : ∃ y, y3 ++ [44, 32] = y := ⟨_, rfl⟩
  simp only [hy4] at b4 b5 ⊢
  obtain ⟨y5, hy5⟩ : ∃ y, y4 ++ trs2 = y := ⟨_, rfl⟩
  simp only [hy5] at b5 ⊢
  unfold instW at hW1
  clear hk ho h1 h2 h3 h4 hof l0 l1 l2 l3 l4 htx hplace lp hnm htrd htrs1 htrs2 htn htp hx1 hx2 hy0 hy1 hy2 hy3 hy4 hy5 hfin
  go_enter Tryz.func31, Tryz.ntmps31
  go_upto_region 1 with fail
  (try rw [hW1])
  clear hW1
  obtain ⟨c0, c1, c2, c3, c4⟩ := HCE.out W1 (Below.refl _ _)
  go_wp2_with (first
    | (go_at_call 72; refine (HR_rs1.out _).mono ?_; rintro e w4 ⟨rfl, hb⟩; have HX4 := Lib.hid (boxN_below HX3.out hb); have HB4 := Lib.hid (HB3.out.trans (hb.mono HB3.out.size)); have x1 := HX4.out.cell 1; have x1 : w4.cell? ⟨w2.heap.size, 1, none⟩ = some (.int .i64 1) := x1; have x0 : w4.cell? ⟨w2.heap.size, 0, none⟩ = some (.string ⟨nm.toArray⟩) := HX4.out.cell 0; clear hb)
    | (go_at_call 49; refine (HN.out _).mono ?_; rintro e w3 ⟨rfl, hb⟩; have HX3 := Lib.hid (HX2.out.below hb (by simp)); have hb9 := (bAlloc (Below.refl w2.heap.size w2) _).trans (hb.mono (Nat.le_of_lt (by simp))); have HB3 := Lib.hid (HB2.out.trans (hb9.mono HB2.out.size)); obtain ⟨-, -, e2, -, -⟩ := HCE.out w3 HB3.out; clear hb hb9)
    | (go_at_call 57; refine (HO.out _).mono ?_; rintro e w2 ⟨rfl, hb⟩; have HB2 := Lib.hid hb; have HX2 := Lib.hid (BoxN.new w2 #[.string ⟨nm.toArray⟩, .int .i64 1, .int .i64 r2, .int .i64 r3, .int .i64 r4, .int .i64 r5] 85); obtain ⟨-, -, -, -, d4⟩ := HCE.out (w2.alloc (.cells #[.string ⟨nm.toArray⟩, .int .i64 1, .int .i64 r2, .int .i64 r3, .int .i64 r4, .int .i64 r5] 85)) (bAlloc hb _); clear hb))
  clear c0 c1 c2 c3 c4 d4 e2 x0 x1
  go_region_held3 (fun W => W.cell? ⟨w2.heap.size, 0, none⟩ = some (.string ⟨nm.toArray⟩) ∧ W.cell? ⟨w.heap.size, 1, none⟩ = some (.int .i64 rd) ∧ W.cell? ⟨w.heap.size, 2, none⟩ = some (.int .i64 rs1) ∧ W.cell? ⟨w.heap.size, 3, none⟩ = some (.int .i64 rs2))
    (first | with_reducible exact ⟨HX4.out.cell 0, (HCE.out _ HB4.out).2.1, (HCE.out _ HB4.out).2.2.1, (HCE.out _ HB4.out).2.2.2.1⟩ | with_reducible exact ⟨HX4.out.cell 0, (HCE.out _ (Below.drew HB4.out)).2.1, (HCE.out _ (Below.drew HB4.out)).2.2.1, (HCE.out _ (Below.drew HB4.out)).2.2.2.1⟩ | with_reducible exact ⟨HQ0.out.cell 0, (HCE.out _ HV0.out).2.1, (HCE.out _ HV0.out).2.2.1, (HCE.out _ HV0.out).2.2.2.1⟩ | with_reducible exact ⟨HQ1.out.cell 0, (HCE.out _ HV1.out).2.1, (HCE.out _ HV1.out).2.2.1, (HCE.out _ HV1.out).2.2.2.1⟩ | with_reducible exact ⟨HQ2.out.cell 0, (HCE.out _ HV2.out).2.1, (HCE.out _ HV2.out).2.2.1, (HCE.out _ HV2.out).2.2.2.1⟩ | exact ⟨HX4.out.cell 0, (HCE.out _ HB4.out).2.1, (HCE.out _ HB4.out).2.2.1, (HCE.out _ HB4.out).2.2.2.1⟩ | exact ⟨HX4.out.cell 0, (HCE.out _ (Below.drew HB4.out)).2.1, (HCE.out _ (Below.drew HB4.out)).2.2.1, (HCE.out _ (Below.drew HB4.out)).2.2.2.1⟩ | exact ⟨HQ0.out.cell 0, (HCE.out _ HV0.out).2.1, (HCE.out _ HV0.out).2.2.1, (HCE.out _ HV0.out).2.2.2.1⟩ | exact ⟨HQ1.out.cell 0, (HCE.out _ HV1.out).2.1, (HCE.out _ HV1.out).2.2.1, (HCE.out _ HV1.out).2.2.2.1⟩ | exact ⟨HQ2.out.cell 0, (HCE.out _ HV2.out).2.1, (HCE.out _ HV2.out).2.2.1, (HCE.out _ HV2.out).2.2.2.1⟩ | go_keep)
    (first
      | (go_at_call 72; have hz := HV1; clear hz; (with_reducible refine (HR_rs2.out v1).mono ?_); rintro e v2 ⟨rfl, hb⟩; have HV2 := Lib.hid (HV1.out.trans (hb.mono HV1.out.size)); have HQ2 := Lib.hid (boxN_below HQ1.out hb); clear hb)
      | (go_at_call 72; have hz := HV0; clear hz; (with_reducible refine (HR_rs1.out v0).mono ?_); rintro e v1 ⟨rfl, hb⟩; have HV1 := Lib.hid (HV0.out.trans (hb.mono HV0.out.size)); have HQ1 := Lib.hid (boxN_below HQ0.out hb); clear hb)
      | (go_at_call 72; (with_reducible refine (HR_rd.out w4.drew).mono ?_); rintro e v0 ⟨rfl, hb⟩; have HV0 := Lib.hid ((Below.drew HB4.out).trans (hb.mono (Below.drew HB4.out).size)); have HQ0 := Lib.hid (boxN_below (BoxN.drew HX4.out) hb); clear hb))
  all_goals go_wp2_with fail
  all_goals
    go_ret
    exact ⟨rfl, HBW.out.trans (HV2.out.mono HBW.out.size)⟩
set_option maxRecDepth 100000 in
set_option maxHeartbeats 2000000 in
theorem rtext_2 (op rd rs1 rs2 n : Int) (w : World) (hk : kindA op = 2) (ho : 1 ≤ op ∧ op ≤ 82) (h1 : 0 ≤ rd ∧ rd < 32) (h2 : 0 ≤ rs1 ∧ rs1 < 32) (h3 : 0 ≤ rs2 ∧ rs2 < 32) (h4 : -2147483648 ≤ n ∧ n < 2147483648) : RTextP op rd rs1 rs2 n w := by
  unfold RTextP
  have HCE := Lib.hid (fun W hb => inst_cells w W op rd rs1 rs2 n hb)
  obtain ⟨W1, hW1⟩ : ∃ W1, instW w op rd rs1 rs2 n = W1 := ⟨_, rfl⟩
  have HBW := Lib.hid (below_inst w op rd rs1 rs2 n)
  rw [hW1] at HCE HBW
  obtain ⟨r2, r3, r4, r5, hof⟩ := rof_kind op 2 hk
  have HO := Lib.hid hof
  have HN := Lib.hid (fun W => rnum_any n W (by omega) (by omega))
  have HR_rd := Lib.hid (fun W => rreg_any rd W h1)
  have HR_rs1 := Lib.hid (fun W => rreg_any rs1 W h2)
  have HR_rs2 := Lib.hid (fun W => rreg_any rs2 W h3)
  have l0 := opN_le op ho.1 ho.2
  have l1 := regT_le h1.1 h1.2
  have l2 := regT_le h2.1 h2.2
  have l3 := regT_le h3.1 h3.2
  have l4 := itoa_le (n := n) (by omega) (by omega)
  have htx : textF op rd rs1 rs2 n = opN op ++ tailT (opdF 2 rd rs1 rs2 n) := by unfold textF; rw [hk]
  rw [htx]
  rw [show opdF 2 rd rs1 rs2 n = [regT rd, regT rs1, Lib.itoa n] from rfl, show tailT [regT rd, regT rs1, Lib.itoa n] = 32 :: Lib.join [regT rd, regT rs1, Lib.itoa n] sepT from rfl, join3]
  have hplace : placeT n rs1 = ((Lib.itoa n ++ [40]) ++ regT rs1) ++ [41] := by unfold placeT; simp
  have lp : (placeT n rs1).length ≤ 60 := by rw [hplace]; simp only [List.length_append, List.length_cons, List.length_nil]; omega
  obtain ⟨nm, hnm⟩ : ∃ nm, opN op = nm := ⟨_, rfl⟩
  obtain ⟨trd, htrd⟩ : ∃ t, regT rd = t := ⟨_, rfl⟩
  obtain ⟨trs1, htrs1⟩ : ∃ t, regT rs1 = t := ⟨_, rfl⟩
  obtain ⟨trs2, htrs2⟩ : ∃ t, regT rs2 = t := ⟨_, rfl⟩
  obtain ⟨tn, htn⟩ : ∃ t, Lib.itoa n = t := ⟨_, rfl⟩
  obtain ⟨tp, htp⟩ : ∃ t, placeT n rs1 = t := ⟨_, rfl⟩
  simp only [hnm, htrd, htrs1, htrs2, htn, htp] at *
  have a1 := add_l tn [40] (tn ++ [40]) rfl (by omega) (by decide)
  have a2 := add_l (tn ++ [40]) trs1 ((tn ++ [40]) ++ trs1) rfl (by simp only [List.length_append, List.length_cons, List.length_nil]; omega) (by omega)
  have a3 := add_l ((tn ++ [40]) ++ trs1) [41] tp hplace.symm (by simp only [List.length_append, List.length_cons, List.length_nil]; omega) (by decide)
  obtain ⟨x1, hx1⟩ : ∃ x, tn ++ [40] = x := ⟨_, rfl⟩
  rw [hx1] at a1 a2 a3
  obtain ⟨x2, hx2⟩ : ∃ x, x1 ++ trs1 = x := ⟨_, rfl⟩
  rw [hx2] at a2 a3
  have b0 := add_l (nm) ([32]) ((nm) ++ [32]) rfl (by first | omega | (simp only [List.length_append, List.length_cons, List.length_nil]; omega)) (by first | omega | decide)
  have b1 := add_l ((nm) ++ [32]) (trd) (((nm) ++ [32]) ++ trd) rfl (by first | omega | (simp only [List.length_append, List.length_cons, List.length_nil]; omega)) (by first | omega | decide)
  have b2 := add_l (((nm) ++ [32]) ++ trd) ([44, 32]) ((((nm) ++ [32]) ++ trd) ++ [44, 32]) rfl (by first | omega | (simp only [List.length_append, List.length_cons, List.length_nil]; omega)) (by first | omega | decide)
  have b3 := add_l ((((nm) ++ [32]) ++ trd) ++ [44, 32]) (trs1) (((((nm) ++ [32]) ++ trd) ++ [44, 32]) ++ trs1) rfl (by first | omega | (simp only [List.length_append, List.length_cons, List.length_nil]; omega)) (by first | omega | decide)
  have b4 := add_l (((((nm) ++ [32]) ++ trd) ++ [44, 32]) ++ trs1) ([44, 32]) ((((((nm) ++ [32]) ++ trd) ++ [44, 32]) ++ trs1) ++ [44, 32]) rfl (by first | omega | (simp only [List.length_append, List.length_cons, List.length_nil]; omega)) (by first | omega | decide)
  have b5 := add_l ((((((nm) ++ [32]) ++ trd) ++ [44, 32]) ++ trs1) ++ [44, 32]) (tn) (((((((nm) ++ [32]) ++ trd) ++ [44, 32]) ++ trs1) ++ [44, 32]) ++ tn) rfl (by first | omega | (simp only [List.length_append, List.length_cons, List.length_nil]; omega)) (by first | omega | decide)
  have hfin : ((((((nm) ++ [32]) ++ trd) ++ [44, 32]) ++ trs1) ++ [44, 32]) ++ tn = nm ++ 32 :: (trd ++ ([44, 32] ++ (trs1 ++ ([44, 32] ++ tn)))) := by simp
  rw [← hfin]
  obtain ⟨y0, hy0⟩ : ∃ y, nm ++ [32] = y := ⟨_, rfl⟩
  simp only [hy0] at b0 b1 b2 b3 b4 b5 ⊢
  obtain ⟨y1, hy1⟩ : ∃ y, y0 ++ trd = y := ⟨_, rfl⟩
  simp only [hy1] at b1 b2 b3 b4 b5 ⊢
  obtain ⟨y2, hy2⟩ : ∃ y, y1 ++ [44, 32] = y := ⟨_, rfl⟩
  simp only [hy2] at b2 b3 b4 b5 ⊢
  obtain ⟨y3, hy3⟩ : ∃ y, y2 ++ trs1 = y := ⟨_, rfl⟩
  simp only [hy3] at b3 b4 b5 ⊢
  obtain ⟨y4, hy4⟩ : ∃ y, y3 ++ [44, 32] = y := ⟨_, rfl⟩
  simp only [hy4] at b4 b5 ⊢
  obtain ⟨y5, hy5⟩ : ∃ y, y4 ++ tn = y := ⟨_, rfl⟩
  simp only [hy5] at b5 ⊢
  unfold instW at hW1
  clear hk ho h1 h2 h3 h4 hof l0 l1 l2 l3 l4 htx hplace lp hnm htrd htrs1 htrs2 htn htp hx1 hx2 hy0 hy1 hy2 hy3 hy4 hy5 hfin
  go_enter Tryz.func31, Tryz.ntmps31
  go_upto_region 1 with fail
  (try rw [hW1])
  clear hW1
  obtain ⟨c0, c1, c2, c3, c4⟩ := HCE.out W1 (Below.refl _ _)
  go_wp2_with (first
    | (go_at_call 72; refine (HR_rs1.out _).mono ?_; rintro e w4 ⟨rfl, hb⟩; have HX4 := Lib.hid (boxN_below HX3.out hb); have HB4 := Lib.hid (HB3.out.trans (hb.mono HB3.out.size)); have x1 := HX4.out.cell 1; have x1 : w4.cell? ⟨w2.heap.size, 1, none⟩ = some (.int .i64 2) := x1; have x0 : w4.cell? ⟨w2.heap.size, 0, none⟩ = some (.string ⟨nm.toArray⟩) := HX4.out.cell 0; clear hb)
    | (go_at_call 49; refine (HN.out _).mono ?_; rintro e w3 ⟨rfl, hb⟩; have HX3 := Lib.hid (HX2.out.below hb (by simp)); have hb9 := (bAlloc (Below.refl w2.heap.size w2) _).trans (hb.mono (Nat.le_of_lt (by simp))); have HB3 := Lib.hid (HB2.out.trans (hb9.mono HB2.out.size)); obtain ⟨-, -, e2, -, -⟩ := HCE.out w3 HB3.out; clear hb hb9)
    | (go_at_call 57; refine (HO.out _).mono ?_; rintro e w2 ⟨rfl, hb⟩; have HB2 := Lib.hid hb; have HX2 := Lib.hid (BoxN.new w2 #[.string ⟨nm.toArray⟩, .int .i64 2, .int .i64 r2, .int .i64 r3, .int .i64 r4, .int .i64 r5] 85); obtain ⟨-, -, -, -, d4⟩ := HCE.out (w2.alloc (.cells #[.string ⟨nm.toArray⟩, .int .i64 2, .int .i64 r2, .int .i64 r3, .int .i64 r4, .int .i64 r5] 85)) (bAlloc hb _); clear hb))
  clear c0 c1 c2 c3 c4 d4 e2 x0 x1
  go_region_held3 (fun W => W.cell? ⟨w2.heap.size, 0, none⟩ = some (.string ⟨nm.toArray⟩) ∧ W.cell? ⟨w.heap.size, 1, none⟩ = some (.int .i64 rd) ∧ W.cell? ⟨w.heap.size, 2, none⟩ = some (.int .i64 rs1))
    (first | with_reducible exact ⟨HX4.out.cell 0, (HCE.out _ HB4.out).2.1, (HCE.out _ HB4.out).2.2.1⟩ | with_reducible exact ⟨HX4.out.cell 0, (HCE.out _ (Below.drew HB4.out)).2.1, (HCE.out _ (Below.drew HB4.out)).2.2.1⟩ | with_reducible exact ⟨HQ0.out.cell 0, (HCE.out _ HV0.out).2.1, (HCE.out _ HV0.out).2.2.1⟩ | with_reducible exact ⟨HQ1.out.cell 0, (HCE.out _ HV1.out).2.1, (HCE.out _ HV1.out).2.2.1⟩ | exact ⟨HX4.out.cell 0, (HCE.out _ HB4.out).2.1, (HCE.out _ HB4.out).2.2.1⟩ | exact ⟨HX4.out.cell 0, (HCE.out _ (Below.drew HB4.out)).2.1, (HCE.out _ (Below.drew HB4.out)).2.2.1⟩ | exact ⟨HQ0.out.cell 0, (HCE.out _ HV0.out).2.1, (HCE.out _ HV0.out).2.2.1⟩ | exact ⟨HQ1.out.cell 0, (HCE.out _ HV1.out).2.1, (HCE.out _ HV1.out).2.2.1⟩ | go_keep)
    (first
      | (go_at_call 72; have hz := HV0; clear hz; (with_reducible refine (HR_rs1.out v0).mono ?_); rintro e v1 ⟨rfl, hb⟩; have HV1 := Lib.hid (HV0.out.trans (hb.mono HV0.out.size)); have HQ1 := Lib.hid (boxN_below HQ0.out hb); clear hb)
      | (go_at_call 72; (with_reducible refine (HR_rd.out w4.drew).mono ?_); rintro e v0 ⟨rfl, hb⟩; have HV0 := Lib.hid ((Below.drew HB4.out).trans (hb.mono (Below.drew HB4.out).size)); have HQ0 := Lib.hid (boxN_below (BoxN.drew HX4.out) hb); clear hb))
  all_goals go_wp2_with fail
  all_goals
    go_ret
    exact ⟨rfl, HBW.out.trans (HV1.out.mono HBW.out.size)⟩
set_option maxRecDepth 100000 in
set_option maxHeartbeats 2000000 in
theorem rtext_3 (op rd rs1 rs2 n : Int) (w : World) (hk : kindA op = 3) (ho : 1 ≤ op ∧ op ≤ 82) (h1 : 0 ≤ rd ∧ rd < 32) (h2 : 0 ≤ rs1 ∧ rs1 < 32) (h3 : 0 ≤ rs2 ∧ rs2 < 32) (h4 : -2147483648 ≤ n ∧ n < 2147483648) : RTextP op rd rs1 rs2 n w := by
  unfold RTextP
  have HCE := Lib.hid (fun W hb => inst_cells w W op rd rs1 rs2 n hb)
  obtain ⟨W1, hW1⟩ : ∃ W1, instW w op rd rs1 rs2 n = W1 := ⟨_, rfl⟩
  have HBW := Lib.hid (below_inst w op rd rs1 rs2 n)
  rw [hW1] at HCE HBW
  obtain ⟨r2, r3, r4, r5, hof⟩ := rof_kind op 3 hk
  have HO := Lib.hid hof
  have HN := Lib.hid (fun W => rnum_any n W (by omega) (by omega))
  have HR_rd := Lib.hid (fun W => rreg_any rd W h1)
  have HR_rs1 := Lib.hid (fun W => rreg_any rs1 W h2)
  have HR_rs2 := Lib.hid (fun W => rreg_any rs2 W h3)
  have l0 := opN_le op ho.1 ho.2
  have l1 := regT_le h1.1 h1.2
  have l2 := regT_le h2.1 h2.2
  have l3 := regT_le h3.1 h3.2
  have l4 := itoa_le (n := n) (by omega) (by omega)
  have htx : textF op rd rs1 rs2 n = opN op ++ tailT (opdF 3 rd rs1 rs2 n) := by unfold textF; rw [hk]
  rw [htx]
  rw [show opdF 3 rd rs1 rs2 n = [regT rd, placeT n rs1] from rfl, show tailT [regT rd, placeT n rs1] = 32 :: Lib.join [regT rd, placeT n rs1] sepT from rfl, join2]
  have hplace : placeT n rs1 = ((Lib.itoa n ++ [40]) ++ regT rs1) ++ [41] := by unfold placeT; simp
  have lp : (placeT n rs1).length ≤ 60 := by rw [hplace]; simp only [List.length_append, List.length_cons, List.length_nil]; omega
  obtain ⟨nm, hnm⟩ : ∃ nm, opN op = nm := ⟨_, rfl⟩
  obtain ⟨trd, htrd⟩ : ∃ t, regT rd = t := ⟨_, rfl⟩
  obtain ⟨trs1, htrs1⟩ : ∃ t, regT rs1 = t := ⟨_, rfl⟩
  obtain ⟨trs2, htrs2⟩ : ∃ t, regT rs2 = t := ⟨_, rfl⟩
  obtain ⟨tn, htn⟩ : ∃ t, Lib.itoa n = t := ⟨_, rfl⟩
  obtain ⟨tp, htp⟩ : ∃ t, placeT n rs1 = t := ⟨_, rfl⟩
  simp only [hnm, htrd, htrs1, htrs2, htn, htp] at *
  have a1 := add_l tn [40] (tn ++ [40]) rfl (by omega) (by decide)
  have a2 := add_l (tn ++ [40]) trs1 ((tn ++ [40]) ++ trs1) rfl (by simp only [List.length_append, List.length_cons, List.length_nil]; omega) (by omega)
  have a3 := add_l ((tn ++ [40]) ++ trs1) [41] tp hplace.symm (by simp only [List.length_append, List.length_cons, List.length_nil]; omega) (by decide)
  obtain ⟨x1, hx1⟩ : ∃ x, tn ++ [40] = x := ⟨_, rfl⟩
  rw [hx1] at a1 a2 a3
  obtain ⟨x2, hx2⟩ : ∃ x, x1 ++ trs1 = x := ⟨_, rfl⟩
  rw [hx2] at a2 a3
  have b0 := add_l (nm) ([32]) ((nm) ++ [32]) rfl (by first | omega | (simp only [List.length_append, List.length_cons, List.length_nil]; omega)) (by first | omega | decide)
  have b1 := add_l ((nm) ++ [32]) (trd) (((nm) ++ [32]) ++ trd) rfl (by first | omega | (simp only [List.length_append, List.length_cons, List.length_nil]; omega)) (by first | omega | decide)
  have b2 := add_l (((nm) ++ [32]) ++ trd) ([44, 32]) ((((nm) ++ [32]) ++ trd) ++ [44, 32]) rfl (by first | omega | (simp only [List.length_append, List.length_cons, List.length_nil]; omega)) (by first | omega | decide)
  have b3 := add_l ((((nm) ++ [32]) ++ trd) ++ [44, 32]) (tp) (((((nm) ++ [32]) ++ trd) ++ [44, 32]) ++ tp) rfl (by first | omega | (simp only [List.length_append, List.length_cons, List.length_nil]; omega)) (by first | omega | decide)
  have hfin : ((((nm) ++ [32]) ++ trd) ++ [44, 32]) ++ tp = nm ++ 32 :: (trd ++ ([44, 32] ++ tp)) := by simp
  rw [← hfin]
  obtain ⟨y0, hy0⟩ : ∃ y, nm ++ [32] = y := ⟨_, rfl⟩
  simp only [hy0] at b0 b1 b2 b3 ⊢
  obtain ⟨y1, hy1⟩ : ∃ y, y0 ++ trd = y := ⟨_, rfl⟩
  simp only [hy1] at b1 b2 b3 ⊢
  obtain ⟨y2, hy2⟩ : ∃ y, y1 ++ [44, 32] = y := ⟨_, rfl⟩
  simp only [hy2] at b2 b3 ⊢
  obtain ⟨y3, hy3⟩ : ∃ y, y2 ++ tp = y := ⟨_, rfl⟩
  simp only [hy3] at b3 ⊢
  unfold instW at hW1
  clear hk ho h1 h2 h3 h4 hof l0 l1 l2 l3 l4 htx hplace lp hnm htrd htrs1 htrs2 htn htp hx1 hx2 hy0 hy1 hy2 hy3 hfin
  go_enter Tryz.func31, Tryz.ntmps31
  go_upto_region 1 with fail
  (try rw [hW1])
  clear hW1
  obtain ⟨c0, c1, c2, c3, c4⟩ := HCE.out W1 (Below.refl _ _)
  go_wp2_with (first
    | (go_at_call 72; refine (HR_rs1.out _).mono ?_; rintro e w4 ⟨rfl, hb⟩; have HX4 := Lib.hid (boxN_below HX3.out hb); have HB4 := Lib.hid (HB3.out.trans (hb.mono HB3.out.size)); have x1 := HX4.out.cell 1; have x1 : w4.cell? ⟨w2.heap.size, 1, none⟩ = some (.int .i64 3) := x1; have x0 : w4.cell? ⟨w2.heap.size, 0, none⟩ = some (.string ⟨nm.toArray⟩) := HX4.out.cell 0; clear hb)
    | (go_at_call 49; refine (HN.out _).mono ?_; rintro e w3 ⟨rfl, hb⟩; have HX3 := Lib.hid (HX2.out.below hb (by simp)); have hb9 := (bAlloc (Below.refl w2.heap.size w2) _).trans (hb.mono (Nat.le_of_lt (by simp))); have HB3 := Lib.hid (HB2.out.trans (hb9.mono HB2.out.size)); obtain ⟨-, -, e2, -, -⟩ := HCE.out w3 HB3.out; clear hb hb9)
    | (go_at_call 57; refine (HO.out _).mono ?_; rintro e w2 ⟨rfl, hb⟩; have HB2 := Lib.hid hb; have HX2 := Lib.hid (BoxN.new w2 #[.string ⟨nm.toArray⟩, .int .i64 3, .int .i64 r2, .int .i64 r3, .int .i64 r4, .int .i64 r5] 85); obtain ⟨-, -, -, -, d4⟩ := HCE.out (w2.alloc (.cells #[.string ⟨nm.toArray⟩, .int .i64 3, .int .i64 r2, .int .i64 r3, .int .i64 r4, .int .i64 r5] 85)) (bAlloc hb _); clear hb))
  clear c0 c1 c2 c3 c4 d4 e2 x0 x1
  go_region_held3 (fun W => W.cell? ⟨w2.heap.size, 0, none⟩ = some (.string ⟨nm.toArray⟩) ∧ W.cell? ⟨w.heap.size, 1, none⟩ = some (.int .i64 rd))
    (first | with_reducible exact ⟨HX4.out.cell 0, (HCE.out _ HB4.out).2.1⟩ | with_reducible exact ⟨HX4.out.cell 0, (HCE.out _ (Below.drew HB4.out)).2.1⟩ | with_reducible exact ⟨HQ0.out.cell 0, (HCE.out _ HV0.out).2.1⟩ | exact ⟨HX4.out.cell 0, (HCE.out _ HB4.out).2.1⟩ | exact ⟨HX4.out.cell 0, (HCE.out _ (Below.drew HB4.out)).2.1⟩ | exact ⟨HQ0.out.cell 0, (HCE.out _ HV0.out).2.1⟩ | go_keep)
    (first
      | (go_at_call 72; (with_reducible refine (HR_rd.out w4.drew).mono ?_); rintro e v0 ⟨rfl, hb⟩; have HV0 := Lib.hid ((Below.drew HB4.out).trans (hb.mono (Below.drew HB4.out).size)); have HQ0 := Lib.hid (boxN_below (BoxN.drew HX4.out) hb); clear hb))
  all_goals go_wp2_with fail
  all_goals
    go_ret
    exact ⟨rfl, HBW.out.trans (HV0.out.mono HBW.out.size)⟩
set_option maxRecDepth 100000 in
set_option maxHeartbeats 2000000 in
theorem rtext_4 (op rd rs1 rs2 n : Int) (w : World) (hk : kindA op = 4) (ho : 1 ≤ op ∧ op ≤ 82) (h1 : 0 ≤ rd ∧ rd < 32) (h2 : 0 ≤ rs1 ∧ rs1 < 32) (h3 : 0 ≤ rs2 ∧ rs2 < 32) (h4 : -2147483648 ≤ n ∧ n < 2147483648) : RTextP op rd rs1 rs2 n w := by
  unfold RTextP
  have HCE := Lib.hid (fun W hb => inst_cells w W op rd rs1 rs2 n hb)
  obtain ⟨W1, hW1⟩ : ∃ W1, instW w op rd rs1 rs2 n = W1 := ⟨_, rfl⟩
  have HBW := Lib.hid (below_inst w op rd rs1 rs2 n)
  rw [hW1] at HCE HBW
  obtain ⟨r2, r3, r4, r5, hof⟩ := rof_kind op 4 hk
  have HO := Lib.hid hof
  have HN := Lib.hid (fun W => rnum_any n W (by omega) (by omega))
  have HR_rd := Lib.hid (fun W => rreg_any rd W h1)
  have HR_rs1 := Lib.hid (fun W => rreg_any rs1 W h2)
  have HR_rs2 := Lib.hid (fun W => rreg_any rs2 W h3)
  have l0 := opN_le op ho.1 ho.2
  have l1 := regT_le h1.1 h1.2
  have l2 := regT_le h2.1 h2.2
  have l3 := regT_le h3.1 h3.2
  have l4 := itoa_le (n := n) (by omega) (by omega)
  have htx : textF op rd rs1 rs2 n = opN op ++ tailT (opdF 4 rd rs1 rs2 n) := by unfold textF; rw [hk]
  rw [htx]
  rw [show opdF 4 rd rs1 rs2 n = [regT rs2, placeT n rs1] from rfl, show tailT [regT rs2, placeT n rs1] = 32 :: Lib.join [regT rs2, placeT n rs1] sepT from rfl, join2]
  have hplace : placeT n rs1 = ((Lib.itoa n ++ [40]) ++ regT rs1) ++ [41] := by unfold placeT; simp
  have lp : (placeT n rs1).length ≤ 60 := by rw [hplace]; simp only [List.length_append, List.length_cons, List.length_nil]; omega
  obtain ⟨nm, hnm⟩ : ∃ nm, opN op = nm := ⟨_, rfl⟩
  obtain ⟨trd, htrd⟩ : ∃ t, regT rd = t := ⟨_, rfl⟩
  obtain ⟨trs1, htrs1⟩ : ∃ t, regT rs1 = t := ⟨_, rfl⟩
  obtain ⟨trs2, htrs2⟩ : ∃ t, regT rs2 = t := ⟨_, rfl⟩
  obtain ⟨tn, htn⟩ : ∃ t, Lib.itoa n = t := ⟨_, rfl⟩
  obtain ⟨tp, htp⟩ : ∃ t, placeT n rs1 = t := ⟨_, rfl⟩
  simp only [hnm, htrd, htrs1, htrs2, htn, htp] at *
  have a1 := add_l tn [40] (tn ++ [40]) rfl (by omega) (by decide)
  have a2 := add_l (tn ++ [40]) trs1 ((tn ++ [40]) ++ trs1) rfl (by simp only [List.length_append, List.length_cons, List.length_nil]; omega) (by omega)
  have a3 := add_l ((tn ++ [40]) ++ trs1) [41] tp hplace.symm (by simp only [List.length_append, List.length_cons, List.length_nil]; omega) (by decide)
  obtain ⟨x1, hx1⟩ : ∃ x, tn ++ [40] = x := ⟨_, rfl⟩
  rw [hx1] at a1 a2 a3
  obtain ⟨x2, hx2⟩ : ∃ x, x1 ++ trs1 = x := ⟨_, rfl⟩
  rw [hx2] at a2 a3
  have b0 := add_l (nm) ([32]) ((nm) ++ [32]) rfl (by first | omega | (simp only [List.length_append, List.length_cons, List.length_nil]; omega)) (by first | omega | decide)
  have b1 := add_l ((nm) ++ [32]) (trs2) (((nm) ++ [32]) ++ trs2) rfl (by first | omega | (simp only [List.length_append, List.length_cons, List.length_nil]; omega)) (by first | omega | decide)
  have b2 := add_l (((nm) ++ [32]) ++ trs2) ([44, 32]) ((((nm) ++ [32]) ++ trs2) ++ [44, 32]) rfl (by first | omega | (simp only [List.length_append, List.length_cons, List.length_nil]; omega)) (by first | omega | decide)
  have b3 := add_l ((((nm) ++ [32]) ++ trs2) ++ [44, 32]) (tp) (((((nm) ++ [32]) ++ trs2) ++ [44, 32]) ++ tp) rfl (by first | omega | (simp only [List.length_append, List.length_cons, List.length_nil]; omega)) (by first | omega | decide)
  have hfin : ((((nm) ++ [32]) ++ trs2) ++ [44, 32]) ++ tp = nm ++ 32 :: (trs2 ++ ([44, 32] ++ tp)) := by simp
  rw [← hfin]
  obtain ⟨y0, hy0⟩ : ∃ y, nm ++ [32] = y := ⟨_, rfl⟩
  simp only [hy0] at b0 b1 b2 b3 ⊢
  obtain ⟨y1, hy1⟩ : ∃ y, y0 ++ trs2 = y := ⟨_, rfl⟩
  simp only [hy1] at b1 b2 b3 ⊢
  obtain ⟨y2, hy2⟩ : ∃ y, y1 ++ [44, 32] = y := ⟨_, rfl⟩
  simp only [hy2] at b2 b3 ⊢
  obtain ⟨y3, hy3⟩ : ∃ y, y2 ++ tp = y := ⟨_, rfl⟩
  simp only [hy3] at b3 ⊢
  unfold instW at hW1
  clear hk ho h1 h2 h3 h4 hof l0 l1 l2 l3 l4 htx hplace lp hnm htrd htrs1 htrs2 htn htp hx1 hx2 hy0 hy1 hy2 hy3 hfin
  go_enter Tryz.func31, Tryz.ntmps31
  go_upto_region 1 with fail
  (try rw [hW1])
  clear hW1
  obtain ⟨c0, c1, c2, c3, c4⟩ := HCE.out W1 (Below.refl _ _)
  go_wp2_with (first
    | (go_at_call 72; refine (HR_rs1.out _).mono ?_; rintro e w4 ⟨rfl, hb⟩; have HX4 := Lib.hid (boxN_below HX3.out hb); have HB4 := Lib.hid (HB3.out.trans (hb.mono HB3.out.size)); have x1 := HX4.out.cell 1; have x1 : w4.cell? ⟨w2.heap.size, 1, none⟩ = some (.int .i64 4) := x1; have x0 : w4.cell? ⟨w2.heap.size, 0, none⟩ = some (.string ⟨nm.toArray⟩) := HX4.out.cell 0; clear hb)
    | (go_at_call 49; refine (HN.out _).mono ?_; rintro e w3 ⟨rfl, hb⟩; have HX3 := Lib.hid (HX2.out.below hb (by simp)); have hb9 := (bAlloc (Below.refl w2.heap.size w2) _).trans (hb.mono (Nat.le_of_lt (by simp))); have HB3 := Lib.hid (HB2.out.trans (hb9.mono HB2.out.size)); obtain ⟨-, -, e2, -, -⟩ := HCE.out w3 HB3.out; clear hb hb9)
    | (go_at_call 57; refine (HO.out _).mono ?_; rintro e w2 ⟨rfl, hb⟩; have HB2 := Lib.hid hb; have HX2 := Lib.hid (BoxN.new w2 #[.string ⟨nm.toArray⟩, .int .i64 4, .int .i64 r2, .int .i64 r3, .int .i64 r4, .int .i64 r5] 85); obtain ⟨-, -, -, -, d4⟩ := HCE.out (w2.alloc (.cells #[.string ⟨nm.toArray⟩, .int .i64 4, .int .i64 r2, .int .i64 r3, .int .i64 r4, .int .i64 r5] 85)) (bAlloc hb _); clear hb))
  clear c0 c1 c2 c3 c4 d4 e2 x0 x1
  go_region_held3 (fun W => W.cell? ⟨w2.heap.size, 0, none⟩ = some (.string ⟨nm.toArray⟩) ∧ W.cell? ⟨w.heap.size, 3, none⟩ = some (.int .i64 rs2))
    (first | with_reducible exact ⟨HX4.out.cell 0, (HCE.out _ HB4.out).2.2.2.1⟩ | with_reducible exact ⟨HX4.out.cell 0, (HCE.out _ (Below.drew HB4.out)).2.2.2.1⟩ | with_reducible exact ⟨HQ0.out.cell 0, (HCE.out _ HV0.out).2.2.2.1⟩ | exact ⟨HX4.out.cell 0, (HCE.out _ HB4.out).2.2.2.1⟩ | exact ⟨HX4.out.cell 0, (HCE.out _ (Below.drew HB4.out)).2.2.2.1⟩ | exact ⟨HQ0.out.cell 0, (HCE.out _ HV0.out).2.2.2.1⟩ | go_keep)
    (first
      | (go_at_call 72; (with_reducible refine (HR_rs2.out w4.drew).mono ?_); rintro e v0 ⟨rfl, hb⟩; have HV0 := Lib.hid ((Below.drew HB4.out).trans (hb.mono (Below.drew HB4.out).size)); have HQ0 := Lib.hid (boxN_below (BoxN.drew HX4.out) hb); clear hb))
  all_goals go_wp2_with fail
  all_goals
    go_ret
    exact ⟨rfl, HBW.out.trans (HV0.out.mono HBW.out.size)⟩
set_option maxRecDepth 100000 in
set_option maxHeartbeats 2000000 in
theorem rtext_5 (op rd rs1 rs2 n : Int) (w : World) (hk : kindA op = 5) (ho : 1 ≤ op ∧ op ≤ 82) (h1 : 0 ≤ rd ∧ rd < 32) (h2 : 0 ≤ rs1 ∧ rs1 < 32) (h3 : 0 ≤ rs2 ∧ rs2 < 32) (h4 : -2147483648 ≤ n ∧ n < 2147483648) : RTextP op rd rs1 rs2 n w := by
  unfold RTextP
  have HCE := Lib.hid (fun W hb => inst_cells w W op rd rs1 rs2 n hb)
  obtain ⟨W1, hW1⟩ : ∃ W1, instW w op rd rs1 rs2 n = W1 := ⟨_, rfl⟩
  have HBW := Lib.hid (below_inst w op rd rs1 rs2 n)
  rw [hW1] at HCE HBW
  obtain ⟨r2, r3, r4, r5, hof⟩ := rof_kind op 5 hk
  have HO := Lib.hid hof
  have HN := Lib.hid (fun W => rnum_any n W (by omega) (by omega))
  have HR_rd := Lib.hid (fun W => rreg_any rd W h1)
  have HR_rs1 := Lib.hid (fun W => rreg_any rs1 W h2)
  have HR_rs2 := Lib.hid (fun W => rreg_any rs2 W h3)
  have l0 := opN_le op ho.1 ho.2
  have l1 := regT_le h1.1 h1.2
  have l2 := regT_le h2.1 h2.2
  have l3 := regT_le h3.1 h3.2
  have l4 := itoa_le (n := n) (by omega) (by omega)
  have htx : textF op rd rs1 rs2 n = opN op ++ tailT (opdF 5 rd rs1 rs2 n) := by unfold textF; rw [hk]
  rw [htx]
  rw [show opdF 5 rd rs1 rs2 n = [regT rs1, regT rs2, Lib.itoa n] from rfl, show tailT [regT rs1, regT rs2, Lib.itoa n] = 32 :: Lib.join [regT rs1, regT rs2, Lib.itoa n] sepT from rfl, join3]
  have hplace : placeT n rs1 = ((Lib.itoa n ++ [40]) ++ regT rs1) ++ [41] := by unfold placeT; simp
  have lp : (placeT n rs1).length ≤ 60 := by rw [hplace]; simp only [List.length_append, List.length_cons, List.length_nil]; omega
  obtain ⟨nm, hnm⟩ : ∃ nm, opN op = nm := ⟨_, rfl⟩
  obtain ⟨trd, htrd⟩ : ∃ t, regT rd = t := ⟨_, rfl⟩
  obtain ⟨trs1, htrs1⟩ : ∃ t, regT rs1 = t := ⟨_, rfl⟩
  obtain ⟨trs2, htrs2⟩ : ∃ t, regT rs2 = t := ⟨_, rfl⟩
  obtain ⟨tn, htn⟩ : ∃ t, Lib.itoa n = t := ⟨_, rfl⟩
  obtain ⟨tp, htp⟩ : ∃ t, placeT n rs1 = t := ⟨_, rfl⟩
  simp only [hnm, htrd, htrs1, htrs2, htn, htp] at *
  have a1 := add_l tn [40] (tn ++ [40]) rfl (by omega) (by decide)
  have a2 := add_l (tn ++ [40]) trs1 ((tn ++ [40]) ++ trs1) rfl (by simp only [List.length_append, List.length_cons, List.length_nil]; omega) (by omega)
  have a3 := add_l ((tn ++ [40]) ++ trs1) [41] tp hplace.symm (by simp only [List.length_append, List.length_cons, List.length_nil]; omega) (by decide)
  obtain ⟨x1, hx1⟩ : ∃ x, tn ++ [40] = x := ⟨_, rfl⟩
  rw [hx1] at a1 a2 a3
  obtain ⟨x2, hx2⟩ : ∃ x, x1 ++ trs1 = x := ⟨_, rfl⟩
  rw [hx2] at a2 a3
  have b0 := add_l (nm) ([32]) ((nm) ++ [32]) rfl (by first | omega | (simp only [List.length_append, List.length_cons, List.length_nil]; omega)) (by first | omega | decide)
  have b1 := add_l ((nm) ++ [32]) (trs1) (((nm) ++ [32]) ++ trs1) rfl (by first | omega | (simp only [List.length_append, List.length_cons, List.length_nil]; omega)) (by first | omega | decide)
  have b2 := add_l (((nm) ++ [32]) ++ trs1) ([44, 32]) ((((nm) ++ [32]) ++ trs1) ++ [44, 32]) rfl (by first | omega | (simp only [List.length_append, List.length_cons, List.length_nil]; omega)) (by first | omega | decide)
  have b3 := add_l ((((nm) ++ [32]) ++ trs1) ++ [44, 32]) (trs2) (((((nm) ++ [32]) ++ trs1) ++ [44, 32]) ++ trs2) rfl (by first | omega | (simp only [List.length_append, List.length_cons, List.length_nil]; omega)) (by first | omega | decide)
  have b4 := add_l (((((nm) ++ [32]) ++ trs1) ++ [44, 32]) ++ trs2) ([44, 32]) ((((((nm) ++ [32]) ++ trs1) ++ [44, 32]) ++ trs2) ++ [44, 32]) rfl (by first | omega | (simp only [List.length_append, List.length_cons, List.length_nil]; omega)) (by first | omega | decide)
  have b5 := add_l ((((((nm) ++ [32]) ++ trs1) ++ [44, 32]) ++ trs2) ++ [44, 32]) (tn) (((((((nm) ++ [32]) ++ trs1) ++ [44, 32]) ++ trs2) ++ [44, 32]) ++ tn) rfl (by first | omega | (simp only [List.length_append, List.length_cons, List.length_nil]; omega)) (by first | omega | decide)
  have hfin : ((((((nm) ++ [32]) ++ trs1) ++ [44, 32]) ++ trs2) ++ [44, 32]) ++ tn = nm ++ 32 :: (trs1 ++ ([44, 32] ++ (trs2 ++ ([44, 32] ++ tn)))) := by simp
  rw [← hfin]
  obtain ⟨y0, hy0⟩ : ∃ y, nm ++ [32] = y := ⟨_, rfl⟩
  simp only [hy0] at b0 b1 b2 b3 b4 b5 ⊢
  obtain ⟨y1, hy1⟩ : ∃ y, y0 ++ trs1 = y := ⟨_, rfl⟩
  simp only [hy1] at b1 b2 b3 b4 b5 ⊢
  obtain ⟨y2, hy2⟩ : ∃ y, y1 ++ [44, 32] = y := ⟨_, rfl⟩
  simp only [hy2] at b2 b3 b4 b5 ⊢
  obtain ⟨y3, hy3⟩ : ∃ y, y2 ++ trs2 = y := ⟨_, rfl⟩
  simp only [hy3] at b3 b4 b5 ⊢
  obtain ⟨y4, hy4⟩ : ∃ y, y3 ++ [44, 32] = y := ⟨_, rfl⟩
  simp only [hy4] at b4 b5 ⊢
  obtain ⟨y5, hy5⟩ : ∃ y, y4 ++ tn = y := ⟨_, rfl⟩
  simp only [hy5] at b5 ⊢
  unfold instW at hW1
  clear hk ho h1 h2 h3 h4 hof l0 l1 l2 l3 l4 htx hplace lp hnm htrd htrs1 htrs2 htn htp hx1 hx2 hy0 hy1 hy2 hy3 hy4 hy5 hfin
  go_enter Tryz.func31, Tryz.ntmps31
  go_upto_region 1 with fail
  (try rw [hW1])
  clear hW1
  obtain ⟨c0, c1, c2, c3, c4⟩ := HCE.out W1 (Below.refl _ _)
  go_wp2_with (first
    | (go_at_call 72; refine (HR_rs1.out _).mono ?_; rintro e w4 ⟨rfl, hb⟩; have HX4 := Lib.hid (boxN_below HX3.out hb); have HB4 := Lib.hid (HB3.out.trans (hb.mono HB3.out.size)); have x1 := HX4.out.cell 1; have x1 : w4.cell? ⟨w2.heap.size, 1, none⟩ = some (.int .i64 5) := x1; have x0 : w4.cell? ⟨w2.heap.size, 0, none⟩ = some (.string ⟨nm.toArray⟩) := HX4.out.cell 0; clear hb)
    | (go_at_call 49; refine (HN.out _).mono ?_; rintro e w3 ⟨rfl, hb⟩; have HX3 := Lib.hid (HX2.out.below hb (by simp)); have hb9 := (bAlloc (Below.refl w2.heap.size w2) _).trans (hb.mono (Nat.le_of_lt (by simp))); have HB3 := Lib.hid (HB2.out.trans (hb9.mono HB2.out.size)); obtain ⟨-, -, e2, -, -⟩ := HCE.out w3 HB3.out; clear hb hb9)
    | (go_at_call 57; refine (HO.out _).mono ?_; rintro e w2 ⟨rfl, hb⟩; have HB2 := Lib.hid hb; have HX2 := Lib.hid (BoxN.new w2 #[.string ⟨nm.toArray⟩, .int .i64 5, .int .i64 r2, .int .i64 r3, .int .i64 r4, .int .i64 r5] 85); obtain ⟨-, -, -, -, d4⟩ := HCE.out (w2.alloc (.cells #[.string ⟨nm.toArray⟩, .int .i64 5, .int .i64 r2, .int .i64 r3, .int .i64 r4, .int .i64 r5] 85)) (bAlloc hb _); clear hb))
  clear c0 c1 c2 c3 c4 d4 e2 x0 x1
  go_region_held3 (fun W => W.cell? ⟨w2.heap.size, 0, none⟩ = some (.string ⟨nm.toArray⟩) ∧ W.cell? ⟨w.heap.size, 2, none⟩ = some (.int .i64 rs1) ∧ W.cell? ⟨w.heap.size, 3, none⟩ = some (.int .i64 rs2))
    (first | with_reducible exact ⟨HX4.out.cell 0, (HCE.out _ HB4.out).2.2.1, (HCE.out _ HB4.out).2.2.2.1⟩ | with_reducible exact ⟨HX4.out.cell 0, (HCE.out _ (Below.drew HB4.out)).2.2.1, (HCE.out _ (Below.drew HB4.out)).2.2.2.1⟩ | with_reducible exact ⟨HQ0.out.cell 0, (HCE.out _ HV0.out).2.2.1, (HCE.out _ HV0.out).2.2.2.1⟩ | with_reducible exact ⟨HQ1.out.cell 0, (HCE.out _ HV1.out).2.2.1, (HCE.out _ HV1.out).2.2.2.1⟩ | exact ⟨HX4.out.cell 0, (HCE.out _ HB4.out).2.2.1, (HCE.out _ HB4.out).2.2.2.1⟩ | exact ⟨HX4.out.cell 0, (HCE.out _ (Below.drew HB4.out)).2.2.1, (HCE.out _ (Below.drew HB4.out)).2.2.2.1⟩ | exact ⟨HQ0.out.cell 0, (HCE.out _ HV0.out).2.2.1, (HCE.out _ HV0.out).2.2.2.1⟩ | exact ⟨HQ1.out.cell 0, (HCE.out _ HV1.out).2.2.1, (HCE.out _ HV1.out).2.2.2.1⟩ | go_keep)
    (first
      | (go_at_call 72; have hz := HV0; clear hz; (with_reducible refine (HR_rs2.out v0).mono ?_); rintro e v1 ⟨rfl, hb⟩; have HV1 := Lib.hid (HV0.out.trans (hb.mono HV0.out.size)); have HQ1 := Lib.hid (boxN_below HQ0.out hb); clear hb)
      | (go_at_call 72; (with_reducible refine (HR_rs1.out w4.drew).mono ?_); rintro e v0 ⟨rfl, hb⟩; have HV0 := Lib.hid ((Below.drew HB4.out).trans (hb.mono (Below.drew HB4.out).size)); have HQ0 := Lib.hid (boxN_below (BoxN.drew HX4.out) hb); clear hb))
  all_goals go_wp2_with fail
  all_goals
    go_ret
    exact ⟨rfl, HBW.out.trans (HV1.out.mono HBW.out.size)⟩
set_option maxRecDepth 100000 in
set_option maxHeartbeats 2000000 in
theorem rtext_6 (op rd rs1 rs2 n : Int) (w : World) (hk : kindA op = 6) (ho : 1 ≤ op ∧ op ≤ 82) (h1 : 0 ≤ rd ∧ rd < 32) (h2 : 0 ≤ rs1 ∧ rs1 < 32) (h3 : 0 ≤ rs2 ∧ rs2 < 32) (h4 : -2147483648 ≤ n ∧ n < 2147483648) : RTextP op rd rs1 rs2 n w := by
  unfold RTextP
  have HCE := Lib.hid (fun W hb => inst_cells w W op rd rs1 rs2 n hb)
  obtain ⟨W1, hW1⟩ : ∃ W1, instW w op rd rs1 rs2 n = W1 := ⟨_, rfl⟩
  have HBW := Lib.hid (below_inst w op rd rs1 rs2 n)
  rw [hW1] at HCE HBW
  obtain ⟨r2, r3, r4, r5, hof⟩ := rof_kind op 6 hk
  have HO := Lib.hid hof
  have HN := Lib.hid (fun W => rnum_any n W (by omega) (by omega))
  have HR_rd := Lib.hid (fun W => rreg_any rd W h1)
  have HR_rs1 := Lib.hid (fun W => rreg_any rs1 W h2)
  have HR_rs2 := Lib.hid (fun W => rreg_any rs2 W h3)
  have l0 := opN_le op ho.1 ho.2
  have l1 := regT_le h1.1 h1.2
  have l2 := regT_le h2.1 h2.2
  have l3 := regT_le h3.1 h3.2
  have l4 := itoa_le (n := n) (by omega) (by omega)
  have htx : textF op rd rs1 rs2 n = opN op ++ tailT (opdF 6 rd rs1 rs2 n) := by unfold textF; rw [hk]
  rw [htx]
  rw [show opdF 6 rd rs1 rs2 n = [regT rd, Lib.itoa n] from rfl, show tailT [regT rd, Lib.itoa n] = 32 :: Lib.join [regT rd, Lib.itoa n] sepT from rfl, join2]
  have hplace : placeT n rs1 = ((Lib.itoa n ++ [40]) ++ regT rs1) ++ [41] := by unfold placeT; simp
  have lp : (placeT n rs1).length ≤ 60 := by rw [hplace]; simp only [List.length_append, List.length_cons, List.length_nil]; omega
  obtain ⟨nm, hnm⟩ : ∃ nm, opN op = nm := ⟨_, rfl⟩
  obtain ⟨trd, htrd⟩ : ∃ t, regT rd = t := ⟨_, rfl⟩
  obtain ⟨trs1, htrs1⟩ : ∃ t, regT rs1 = t := ⟨_, rfl⟩
  obtain ⟨trs2, htrs2⟩ : ∃ t, regT rs2 = t := ⟨_, rfl⟩
  obtain ⟨tn, htn⟩ : ∃ t, Lib.itoa n = t := ⟨_, rfl⟩
  obtain ⟨tp, htp⟩ : ∃ t, placeT n rs1 = t := ⟨_, rfl⟩
  simp only [hnm, htrd, htrs1, htrs2, htn, htp] at *
  have a1 := add_l tn [40] (tn ++ [40]) rfl (by omega) (by decide)
  have a2 := add_l (tn ++ [40]) trs1 ((tn ++ [40]) ++ trs1) rfl (by simp only [List.length_append, List.length_cons, List.length_nil]; omega) (by omega)
  have a3 := add_l ((tn ++ [40]) ++ trs1) [41] tp hplace.symm (by simp only [List.length_append, List.length_cons, List.length_nil]; omega) (by decide)
  obtain ⟨x1, hx1⟩ : ∃ x, tn ++ [40] = x := ⟨_, rfl⟩
  rw [hx1] at a1 a2 a3
  obtain ⟨x2, hx2⟩ : ∃ x, x1 ++ trs1 = x := ⟨_, rfl⟩
  rw [hx2] at a2 a3
  have b0 := add_l (nm) ([32]) ((nm) ++ [32]) rfl (by first | omega | (simp only [List.length_append, List.length_cons, List.length_nil]; omega)) (by first | omega | decide)
  have b1 := add_l ((nm) ++ [32]) (trd) (((nm) ++ [32]) ++ trd) rfl (by first | omega | (simp only [List.length_append, List.length_cons, List.length_nil]; omega)) (by first | omega | decide)
  have b2 := add_l (((nm) ++ [32]) ++ trd) ([44, 32]) ((((nm) ++ [32]) ++ trd) ++ [44, 32]) rfl (by first | omega | (simp only [List.length_append, List.length_cons, List.length_nil]; omega)) (by first | omega | decide)
  have b3 := add_l ((((nm) ++ [32]) ++ trd) ++ [44, 32]) (tn) (((((nm) ++ [32]) ++ trd) ++ [44, 32]) ++ tn) rfl (by first | omega | (simp only [List.length_append, List.length_cons, List.length_nil]; omega)) (by first | omega | decide)
  have hfin : ((((nm) ++ [32]) ++ trd) ++ [44, 32]) ++ tn = nm ++ 32 :: (trd ++ ([44, 32] ++ tn)) := by simp
  rw [← hfin]
  obtain ⟨y0, hy0⟩ : ∃ y, nm ++ [32] = y := ⟨_, rfl⟩
  simp only [hy0] at b0 b1 b2 b3 ⊢
  obtain ⟨y1, hy1⟩ : ∃ y, y0 ++ trd = y := ⟨_, rfl⟩
  simp only [hy1] at b1 b2 b3 ⊢
  obtain ⟨y2, hy2⟩ : ∃ y, y1 ++ [44, 32] = y := ⟨_, rfl⟩
  simp only [hy2] at b2 b3 ⊢
  obtain ⟨y3, hy3⟩ : ∃ y, y2 ++ tn = y := ⟨_, rfl⟩
  simp only [hy3] at b3 ⊢
  unfold instW at hW1
  clear hk ho h1 h2 h3 h4 hof l0 l1 l2 l3 l4 htx hplace lp hnm htrd htrs1 htrs2 htn htp hx1 hx2 hy0 hy1 hy2 hy3 hfin
  go_enter Tryz.func31, Tryz.ntmps31
  go_upto_region 1 with fail
  (try rw [hW1])
  clear hW1
  obtain ⟨c0, c1, c2, c3, c4⟩ := HCE.out W1 (Below.refl _ _)
  go_wp2_with (first
    | (go_at_call 72; refine (HR_rs1.out _).mono ?_; rintro e w4 ⟨rfl, hb⟩; have HX4 := Lib.hid (boxN_below HX3.out hb); have HB4 := Lib.hid (HB3.out.trans (hb.mono HB3.out.size)); have x1 := HX4.out.cell 1; have x1 : w4.cell? ⟨w2.heap.size, 1, none⟩ = some (.int .i64 6) := x1; have x0 : w4.cell? ⟨w2.heap.size, 0, none⟩ = some (.string ⟨nm.toArray⟩) := HX4.out.cell 0; clear hb)
    | (go_at_call 49; refine (HN.out _).mono ?_; rintro e w3 ⟨rfl, hb⟩; have HX3 := Lib.hid (HX2.out.below hb (by simp)); have hb9 := (bAlloc (Below.refl w2.heap.size w2) _).trans (hb.mono (Nat.le_of_lt (by simp))); have HB3 := Lib.hid (HB2.out.trans (hb9.mono HB2.out.size)); obtain ⟨-, -, e2, -, -⟩ := HCE.out w3 HB3.out; clear hb hb9)
    | (go_at_call 57; refine (HO.out _).mono ?_; rintro e w2 ⟨rfl, hb⟩; have HB2 := Lib.hid hb; have HX2 := Lib.hid (BoxN.new w2 #[.string ⟨nm.toArray⟩, .int .i64 6, .int .i64 r2, .int .i64 r3, .int .i64 r4, .int .i64 r5] 85); obtain ⟨-, -, -, -, d4⟩ := HCE.out (w2.alloc (.cells #[.string ⟨nm.toArray⟩, .int .i64 6, .int .i64 r2, .int .i64 r3, .int .i64 r4, .int .i64 r5] 85)) (bAlloc hb _); clear hb))
  clear c0 c1 c2 c3 c4 d4 e2 x0 x1
  go_region_held3 (fun W => W.cell? ⟨w2.heap.size, 0, none⟩ = some (.string ⟨nm.toArray⟩) ∧ W.cell? ⟨w.heap.size, 1, none⟩ = some (.int .i64 rd))
    (first | with_reducible exact ⟨HX4.out.cell 0, (HCE.out _ HB4.out).2.1⟩ | with_reducible exact ⟨HX4.out.cell 0, (HCE.out _ (Below.drew HB4.out)).2.1⟩ | with_reducible exact ⟨HQ0.out.cell 0, (HCE.out _ HV0.out).2.1⟩ | exact ⟨HX4.out.cell 0, (HCE.out _ HB4.out).2.1⟩ | exact ⟨HX4.out.cell 0, (HCE.out _ (Below.drew HB4.out)).2.1⟩ | exact ⟨HQ0.out.cell 0, (HCE.out _ HV0.out).2.1⟩ | go_keep)
    (first
      | (go_at_call 72; (with_reducible refine (HR_rd.out w4.drew).mono ?_); rintro e v0 ⟨rfl, hb⟩; have HV0 := Lib.hid ((Below.drew HB4.out).trans (hb.mono (Below.drew HB4.out).size)); have HQ0 := Lib.hid (boxN_below (BoxN.drew HX4.out) hb); clear hb))
  all_goals go_wp2_with fail
  all_goals
    go_ret
    exact ⟨rfl, HBW.out.trans (HV0.out.mono HBW.out.size)⟩
set_option maxRecDepth 100000 in
set_option maxHeartbeats 2000000 in
theorem rtext_7 (op rd rs1 rs2 n : Int) (w : World) (hk : kindA op = 7) (ho : 1 ≤ op ∧ op ≤ 82) (h1 : 0 ≤ rd ∧ rd < 32) (h2 : 0 ≤ rs1 ∧ rs1 < 32) (h3 : 0 ≤ rs2 ∧ rs2 < 32) (h4 : -2147483648 ≤ n ∧ n < 2147483648) : RTextP op rd rs1 rs2 n w := by
  unfold RTextP
  have HCE := Lib.hid (fun W hb => inst_cells w W op rd rs1 rs2 n hb)
  obtain ⟨W1, hW1⟩ : ∃ W1, instW w op rd rs1 rs2 n = W1 := ⟨_, rfl⟩
  have HBW := Lib.hid (below_inst w op rd rs1 rs2 n)
  rw [hW1] at HCE HBW
  obtain ⟨r2, r3, r4, r5, hof⟩ := rof_kind op 7 hk
  have HO := Lib.hid hof
  have HN := Lib.hid (fun W => rnum_any n W (by omega) (by omega))
  have HR_rd := Lib.hid (fun W => rreg_any rd W h1)
  have HR_rs1 := Lib.hid (fun W => rreg_any rs1 W h2)
  have HR_rs2 := Lib.hid (fun W => rreg_any rs2 W h3)
  have l0 := opN_le op ho.1 ho.2
  have l1 := regT_le h1.1 h1.2
  have l2 := regT_le h2.1 h2.2
  have l3 := regT_le h3.1 h3.2
  have l4 := itoa_le (n := n) (by omega) (by omega)
  have htx : textF op rd rs1 rs2 n = opN op ++ tailT (opdF 7 rd rs1 rs2 n) := by unfold textF; rw [hk]
  rw [htx]
  rw [show opdF 7 rd rs1 rs2 n = [regT rd, Lib.itoa n] from rfl, show tailT [regT rd, Lib.itoa n] = 32 :: Lib.join [regT rd, Lib.itoa n] sepT from rfl, join2]
  have hplace : placeT n rs1 = ((Lib.itoa n ++ [40]) ++ regT rs1) ++ [41] := by unfold placeT; simp
  have lp : (placeT n rs1).length ≤ 60 := by rw [hplace]; simp only [List.length_append, List.length_cons, List.length_nil]; omega
  obtain ⟨nm, hnm⟩ : ∃ nm, opN op = nm := ⟨_, rfl⟩
  obtain ⟨trd, htrd⟩ : ∃ t, regT rd = t := ⟨_, rfl⟩
  obtain ⟨trs1, htrs1⟩ : ∃ t, regT rs1 = t := ⟨_, rfl⟩
  obtain ⟨trs2, htrs2⟩ : ∃ t, regT rs2 = t := ⟨_, rfl⟩
  obtain ⟨tn, htn⟩ : ∃ t, Lib.itoa n = t := ⟨_, rfl⟩
  obtain ⟨tp, htp⟩ : ∃ t, placeT n rs1 = t := ⟨_, rfl⟩
  simp only [hnm, htrd, htrs1, htrs2, htn, htp] at *
  have a1 := add_l tn [40] (tn ++ [40]) rfl (by omega) (by decide)
  have a2 := add_l (tn ++ [40]) trs1 ((tn ++ [40]) ++ trs1) rfl (by simp only [List.length_append, List.length_cons, List.length_nil]; omega) (by omega)
  have a3 := add_l ((tn ++ [40]) ++ trs1) [41] tp hplace.symm (by simp only [List.length_append, List.length_cons, List.length_nil]; omega) (by decide)
  obtain ⟨x1, hx1⟩ : ∃ x, tn ++ [40] = x := ⟨_, rfl⟩
  rw [hx1] at a1 a2 a3
  obtain ⟨x2, hx2⟩ : ∃ x, x1 ++ trs1 = x := ⟨_, rfl⟩
  rw [hx2] at a2 a3
  have b0 := add_l (nm) ([32]) ((nm) ++ [32]) rfl (by first | omega | (simp only [List.length_append, List.length_cons, List.length_nil]; omega)) (by first | omega | decide)
  have b1 := add_l ((nm) ++ [32]) (trd) (((nm) ++ [32]) ++ trd) rfl (by first | omega | (simp only [List.length_append, List.length_cons, List.length_nil]; omega)) (by first | omega | decide)
  have b2 := add_l (((nm) ++ [32]) ++ trd) ([44, 32]) ((((nm) ++ [32]) ++ trd) ++ [44, 32]) rfl (by first | omega | (simp only [List.length_append, List.length_cons, List.length_nil]; omega)) (by first | omega | decide)
  have b3 := add_l ((((nm) ++ [32]) ++ trd) ++ [44, 32]) (tn) (((((nm) ++ [32]) ++ trd) ++ [44, 32]) ++ tn) rfl (by first | omega | (simp only [List.length_append, List.length_cons, List.length_nil]; omega)) (by first | omega | decide)
  have hfin : ((((nm) ++ [32]) ++ trd) ++ [44, 32]) ++ tn = nm ++ 32 :: (trd ++ ([44, 32] ++ tn)) := by simp
  rw [← hfin]
  obtain ⟨y0, hy0⟩ : ∃ y, nm ++ [32] = y := ⟨_, rfl⟩
  simp only [hy0] at b0 b1 b2 b3 ⊢
  obtain ⟨y1, hy1⟩ : ∃ y, y0 ++ trd = y := ⟨_, rfl⟩
  simp only [hy1] at b1 b2 b3 ⊢
  obtain ⟨y2, hy2⟩ : ∃ y, y1 ++ [44, 32] = y := ⟨_, rfl⟩
  simp only [hy2] at b2 b3 ⊢
  obtain ⟨y3, hy3⟩ : ∃ y, y2 ++ tn = y := ⟨_, rfl⟩
  simp only [hy3] at b3 ⊢
  unfold instW at hW1
  clear hk ho h1 h2 h3 h4 hof l0 l1 l2 l3 l4 htx hplace lp hnm htrd htrs1 htrs2 htn htp hx1 hx2 hy0 hy1 hy2 hy3 hfin
  go_enter Tryz.func31, Tryz.ntmps31
  go_upto_region 1 with fail
  (try rw [hW1])
  clear hW1
  obtain ⟨c0, c1, c2, c3, c4⟩ := HCE.out W1 (Below.refl _ _)
  go_wp2_with (first
    | (go_at_call 72; refine (HR_rs1.out _).mono ?_; rintro e w4 ⟨rfl, hb⟩; have HX4 := Lib.hid (boxN_below HX3.out hb); have HB4 := Lib.hid (HB3.out.trans (hb.mono HB3.out.size)); have x1 := HX4.out.cell 1; have x1 : w4.cell? ⟨w2.heap.size, 1, none⟩ = some (.int .i64 7) := x1; have x0 : w4.cell? ⟨w2.heap.size, 0, none⟩ = some (.string ⟨nm.toArray⟩) := HX4.out.cell 0; clear hb)
    | (go_at_call 49; refine (HN.out _).mono ?_; rintro e w3 ⟨rfl, hb⟩; have HX3 := Lib.hid (HX2.out.below hb (by simp)); have hb9 := (bAlloc (Below.refl w2.heap.size w2) _).trans (hb.mono (Nat.le_of_lt (by simp))); have HB3 := Lib.hid (HB2.out.trans (hb9.mono HB2.out.size)); obtain ⟨-, -, e2, -, -⟩ := HCE.out w3 HB3.out; clear hb hb9)
    | (go_at_call 57; refine (HO.out _).mono ?_; rintro e w2 ⟨rfl, hb⟩; have HB2 := Lib.hid hb; have HX2 := Lib.hid (BoxN.new w2 #[.string ⟨nm.toArray⟩, .int .i64 7, .int .i64 r2, .int .i64 r3, .int .i64 r4, .int .i64 r5] 85); obtain ⟨-, -, -, -, d4⟩ := HCE.out (w2.alloc (.cells #[.string ⟨nm.toArray⟩, .int .i64 7, .int .i64 r2, .int .i64 r3, .int .i64 r4, .int .i64 r5] 85)) (bAlloc hb _); clear hb))
  clear c0 c1 c2 c3 c4 d4 e2 x0 x1
  go_region_held3 (fun W => W.cell? ⟨w2.heap.size, 0, none⟩ = some (.string ⟨nm.toArray⟩) ∧ W.cell? ⟨w.heap.size, 1, none⟩ = some (.int .i64 rd))
    (first | with_reducible exact ⟨HX4.out.cell 0, (HCE.out _ HB4.out).2.1⟩ | with_reducible exact ⟨HX4.out.cell 0, (HCE.out _ (Below.drew HB4.out)).2.1⟩ | with_reducible exact ⟨HQ0.out.cell 0, (HCE.out _ HV0.out).2.1⟩ | exact ⟨HX4.out.cell 0, (HCE.out _ HB4.out).2.1⟩ | exact ⟨HX4.out.cell 0, (HCE.out _ (Below.drew HB4.out)).2.1⟩ | exact ⟨HQ0.out.cell 0, (HCE.out _ HV0.out).2.1⟩ | go_keep)
    (first
      | (go_at_call 72; (with_reducible refine (HR_rd.out w4.drew).mono ?_); rintro e v0 ⟨rfl, hb⟩; have HV0 := Lib.hid ((Below.drew HB4.out).trans (hb.mono (Below.drew HB4.out).size)); have HQ0 := Lib.hid (boxN_below (BoxN.drew HX4.out) hb); clear hb))
  all_goals go_wp2_with fail
  all_goals
    go_ret
    exact ⟨rfl, HBW.out.trans (HV0.out.mono HBW.out.size)⟩
set_option maxRecDepth 100000 in
set_option maxHeartbeats 2000000 in
theorem rtext_8 (op rd rs1 rs2 n : Int) (w : World) (hk : kindA op = 8) (ho : 1 ≤ op ∧ op ≤ 82) (h1 : 0 ≤ rd ∧ rd < 32) (h2 : 0 ≤ rs1 ∧ rs1 < 32) (h3 : 0 ≤ rs2 ∧ rs2 < 32) (h4 : -2147483648 ≤ n ∧ n < 2147483648) : RTextP op rd rs1 rs2 n w := by
  unfold RTextP
  have HCE := Lib.hid (fun W hb => inst_cells w W op rd rs1 rs2 n hb)
  obtain ⟨W1, hW1⟩ : ∃ W1, instW w op rd rs1 rs2 n = W1 := ⟨_, rfl⟩
  have HBW := Lib.hid (below_inst w op rd rs1 rs2 n)
  rw [hW1] at HCE HBW
  obtain ⟨r2, r3, r4, r5, hof⟩ := rof_kind op 8 hk
  have HO := Lib.hid hof
  have HN := Lib.hid (fun W => rnum_any n W (by omega) (by omega))
  have HR_rd := Lib.hid (fun W => rreg_any rd W h1)
  have HR_rs1 := Lib.hid (fun W => rreg_any rs1 W h2)
  have HR_rs2 := Lib.hid (fun W => rreg_any rs2 W h3)
  have l0 := opN_le op ho.1 ho.2
  have l1 := regT_le h1.1 h1.2
  have l2 := regT_le h2.1 h2.2
  have l3 := regT_le h3.1 h3.2
  have l4 := itoa_le (n := n) (by omega) (by omega)
  have htx : textF op rd rs1 rs2 n = opN op ++ tailT (opdF 8 rd rs1 rs2 n) := by unfold textF; rw [hk]
  rw [htx]
  rw [show opdF 8 rd rs1 rs2 n = [regT rd, regT rs1] from rfl, show tailT [regT rd, regT rs1] = 32 :: Lib.join [regT rd, regT rs1] sepT from rfl, join2]
  have hplace : placeT n rs1 = ((Lib.itoa n ++ [40]) ++ regT rs1) ++ [41] := by unfold placeT; simp
  have lp : (placeT n rs1).length ≤ 60 := by rw [hplace]; simp only [List.length_append, List.length_cons, List.length_nil]; omega
  obtain ⟨nm, hnm⟩ : ∃ nm, opN op = nm := ⟨_, rfl⟩
  obtain ⟨trd, htrd⟩ : ∃ t, regT rd = t := ⟨_, rfl⟩
  obtain ⟨trs1, htrs1⟩ : ∃ t, regT rs1 = t := ⟨_, rfl⟩
  obtain ⟨trs2, htrs2⟩ : ∃ t, regT rs2 = t := ⟨_, rfl⟩
  obtain ⟨tn, htn⟩ : ∃ t, Lib.itoa n = t := ⟨_, rfl⟩
  obtain ⟨tp, htp⟩ : ∃ t, placeT n rs1 = t := ⟨_, rfl⟩
  simp only [hnm, htrd, htrs1, htrs2, htn, htp] at *
  have a1 := add_l tn [40] (tn ++ [40]) rfl (by omega) (by decide)
  have a2 := add_l (tn ++ [40]) trs1 ((tn ++ [40]) ++ trs1) rfl (by simp only [List.length_append, List.length_cons, List.length_nil]; omega) (by omega)
  have a3 := add_l ((tn ++ [40]) ++ trs1) [41] tp hplace.symm (by simp only [List.length_append, List.length_cons, List.length_nil]; omega) (by decide)
  obtain ⟨x1, hx1⟩ : ∃ x, tn ++ [40] = x := ⟨_, rfl⟩
  rw [hx1] at a1 a2 a3
  obtain ⟨x2, hx2⟩ : ∃ x, x1 ++ trs1 = x := ⟨_, rfl⟩
  rw [hx2] at a2 a3
  have b0 := add_l (nm) ([32]) ((nm) ++ [32]) rfl (by first | omega | (simp only [List.length_append, List.length_cons, List.length_nil]; omega)) (by first | omega | decide)
  have b1 := add_l ((nm) ++ [32]) (trd) (((nm) ++ [32]) ++ trd) rfl (by first | omega | (simp only [List.length_append, List.length_cons, List.length_nil]; omega)) (by first | omega | decide)
  have b2 := add_l (((nm) ++ [32]) ++ trd) ([44, 32]) ((((nm) ++ [32]) ++ trd) ++ [44, 32]) rfl (by first | omega | (simp only [List.length_append, List.length_cons, List.length_nil]; omega)) (by first | omega | decide)
  have b3 := add_l ((((nm) ++ [32]) ++ trd) ++ [44, 32]) (trs1) (((((nm) ++ [32]) ++ trd) ++ [44, 32]) ++ trs1) rfl (by first | omega | (simp only [List.length_append, List.length_cons, List.length_nil]; omega)) (by first | omega | decide)
  have hfin : ((((nm) ++ [32]) ++ trd) ++ [44, 32]) ++ trs1 = nm ++ 32 :: (trd ++ ([44, 32] ++ trs1)) := by simp
  rw [← hfin]
  obtain ⟨y0, hy0⟩ : ∃ y, nm ++ [32] = y := ⟨_, rfl⟩
  simp only [hy0] at b0 b1 b2 b3 ⊢
  obtain ⟨y1, hy1⟩ : ∃ y, y0 ++ trd = y := ⟨_, rfl⟩
  simp only [hy1] at b1 b2 b3 ⊢
  obtain ⟨y2, hy2⟩ : ∃ y, y1 ++ [44, 32] = y := ⟨_, rfl⟩
  simp only [hy2] at b2 b3 ⊢
  obtain ⟨y3, hy3⟩ : ∃ y, y2 ++ trs1 = y := ⟨_, rfl⟩
  simp only [hy3] at b3 ⊢
  unfold instW at hW1
  clear hk ho h1 h2 h3 h4 hof l0 l1 l2 l3 l4 htx hplace lp hnm htrd htrs1 htrs2 htn htp hx1 hx2 hy0 hy1 hy2 hy3 hfin
  go_enter Tryz.func31, Tryz.ntmps31
  go_upto_region 1 with fail
  (try rw [hW1])
  clear hW1
  obtain ⟨c0, c1, c2, c3, c4⟩ := HCE.out W1 (Below.refl _ _)
  go_wp2_with (first
    | (go_at_call 72; refine (HR_rs1.out _).mono ?_; rintro e w4 ⟨rfl, hb⟩; have HX4 := Lib.hid (boxN_below HX3.out hb); have HB4 := Lib.hid (HB3.out.trans (hb.mono HB3.out.size)); have x1 := HX4.out.cell 1; have x1 : w4.cell? ⟨w2.heap.size, 1, none⟩ = some (.int .i64 8) := x1; have x0 : w4.cell? ⟨w2.heap.size, 0, none⟩ = some (.string ⟨nm.toArray⟩) := HX4.out.cell 0; clear hb)
    | (go_at_call 49; refine (HN.out _).mono ?_; rintro e w3 ⟨rfl, hb⟩; have HX3 := Lib.hid (HX2.out.below hb (by simp)); have hb9 := (bAlloc (Below.refl w2.heap.size w2) _).trans (hb.mono (Nat.le_of_lt (by simp))); have HB3 := Lib.hid (HB2.out.trans (hb9.mono HB2.out.size)); obtain ⟨-, -, e2, -, -⟩ := HCE.out w3 HB3.out; clear hb hb9)
    | (go_at_call 57; refine (HO.out _).mono ?_; rintro e w2 ⟨rfl, hb⟩; have HB2 := Lib.hid hb; have HX2 := Lib.hid (BoxN.new w2 #[.string ⟨nm.toArray⟩, .int .i64 8, .int .i64 r2, .int .i64 r3, .int .i64 r4, .int .i64 r5] 85); obtain ⟨-, -, -, -, d4⟩ := HCE.out (w2.alloc (.cells #[.string ⟨nm.toArray⟩, .int .i64 8, .int .i64 r2, .int .i64 r3, .int .i64 r4, .int .i64 r5] 85)) (bAlloc hb _); clear hb))
  clear c0 c1 c2 c3 c4 d4 e2 x0 x1
  go_region_held3 (fun W => W.cell? ⟨w2.heap.size, 0, none⟩ = some (.string ⟨nm.toArray⟩) ∧ W.cell? ⟨w.heap.size, 1, none⟩ = some (.int .i64 rd) ∧ W.cell? ⟨w.heap.size, 2, none⟩ = some (.int .i64 rs1))
    (first | with_reducible exact ⟨HX4.out.cell 0, (HCE.out _ HB4.out).2.1, (HCE.out _ HB4.out).2.2.1⟩ | with_reducible exact ⟨HX4.out.cell 0, (HCE.out _ (Below.drew HB4.out)).2.1, (HCE.out _ (Below.drew HB4.out)).2.2.1⟩ | with_reducible exact ⟨HQ0.out.cell 0, (HCE.out _ HV0.out).2.1, (HCE.out _ HV0.out).2.2.1⟩ | with_reducible exact ⟨HQ1.out.cell 0, (HCE.out _ HV1.out).2.1, (HCE.out _ HV1.out).2.2.1⟩ | exact ⟨HX4.out.cell 0, (HCE.out _ HB4.out).2.1, (HCE.out _ HB4.out).2.2.1⟩ | exact ⟨HX4.out.cell 0, (HCE.out _ (Below.drew HB4.out)).2.1, (HCE.out _ (Below.drew HB4.out)).2.2.1⟩ | exact ⟨HQ0.out.cell 0, (HCE.out _ HV0.out).2.1, (HCE.out _ HV0.out).2.2.1⟩ | exact ⟨HQ1.out.cell 0, (HCE.out _ HV1.out).2.1, (HCE.out _ HV1.out).2.2.1⟩ | go_keep)
    (first
      | (go_at_call 72; have hz := HV0; clear hz; (with_reducible refine (HR_rs1.out v0).mono ?_); rintro e v1 ⟨rfl, hb⟩; have HV1 := Lib.hid (HV0.out.trans (hb.mono HV0.out.size)); have HQ1 := Lib.hid (boxN_below HQ0.out hb); clear hb)
      | (go_at_call 72; (with_reducible refine (HR_rd.out w4.drew).mono ?_); rintro e v0 ⟨rfl, hb⟩; have HV0 := Lib.hid ((Below.drew HB4.out).trans (hb.mono (Below.drew HB4.out).size)); have HQ0 := Lib.hid (boxN_below (BoxN.drew HX4.out) hb); clear hb))
  all_goals go_wp2_with fail
  all_goals
    go_ret
    exact ⟨rfl, HBW.out.trans (HV1.out.mono HBW.out.size)⟩
set_option maxRecDepth 100000 in
set_option maxHeartbeats 2000000 in
theorem rtext_9 (op rd rs1 rs2 n : Int) (w : World) (hk : kindA op = 9) (ho : 1 ≤ op ∧ op ≤ 82) (h1 : 0 ≤ rd ∧ rd < 32) (h2 : 0 ≤ rs1 ∧ rs1 < 32) (h3 : 0 ≤ rs2 ∧ rs2 < 32) (h4 : -2147483648 ≤ n ∧ n < 2147483648) : RTextP op rd rs1 rs2 n w := by
  unfold RTextP
  have HCE := Lib.hid (fun W hb => inst_cells w W op rd rs1 rs2 n hb)
  obtain ⟨W1, hW1⟩ : ∃ W1, instW w op rd rs1 rs2 n = W1 := ⟨_, rfl⟩
  have HBW := Lib.hid (below_inst w op rd rs1 rs2 n)
  rw [hW1] at HCE HBW
  obtain ⟨r2, r3, r4, r5, hof⟩ := rof_kind op 9 hk
  have HO := Lib.hid hof
  have HN := Lib.hid (fun W => rnum_any n W (by omega) (by omega))
  have HR_rd := Lib.hid (fun W => rreg_any rd W h1)
  have HR_rs1 := Lib.hid (fun W => rreg_any rs1 W h2)
  have HR_rs2 := Lib.hid (fun W => rreg_any rs2 W h3)
  have l0 := opN_le op ho.1 ho.2
  have l1 := regT_le h1.1 h1.2
  have l2 := regT_le h2.1 h2.2
  have l3 := regT_le h3.1 h3.2
  have l4 := itoa_le (n := n) (by omega) (by omega)
  have htx : textF op rd rs1 rs2 n = opN op ++ tailT (opdF 9 rd rs1 rs2 n) := by unfold textF; rw [hk]
  rw [htx]
  rw [show opdF 9 rd rs1 rs2 n = [] from rfl, show tailT [] = [] from rfl, List.append_nil]
  have hplace : placeT n rs1 = ((Lib.itoa n ++ [40]) ++ regT rs1) ++ [41] := by unfold placeT; simp
  have lp : (placeT n rs1).length ≤ 60 := by rw [hplace]; simp only [List.length_append, List.length_cons, List.length_nil]; omega
  obtain ⟨nm, hnm⟩ : ∃ nm, opN op = nm := ⟨_, rfl⟩
  obtain ⟨trd, htrd⟩ : ∃ t, regT rd = t := ⟨_, rfl⟩
  obtain ⟨trs1, htrs1⟩ : ∃ t, regT rs1 = t := ⟨_, rfl⟩
  obtain ⟨trs2, htrs2⟩ : ∃ t, regT rs2 = t := ⟨_, rfl⟩
  obtain ⟨tn, htn⟩ : ∃ t, Lib.itoa n = t := ⟨_, rfl⟩
  obtain ⟨tp, htp⟩ : ∃ t, placeT n rs1 = t := ⟨_, rfl⟩
  simp only [hnm, htrd, htrs1, htrs2, htn, htp] at *
  have a1 := add_l tn [40] (tn ++ [40]) rfl (by omega) (by decide)
  have a2 := add_l (tn ++ [40]) trs1 ((tn ++ [40]) ++ trs1) rfl (by simp only [List.length_append, List.length_cons, List.length_nil]; omega) (by omega)
  have a3 := add_l ((tn ++ [40]) ++ trs1) [41] tp hplace.symm (by simp only [List.length_append, List.length_cons, List.length_nil]; omega) (by decide)
  obtain ⟨x1, hx1⟩ : ∃ x, tn ++ [40] = x := ⟨_, rfl⟩
  rw [hx1] at a1 a2 a3
  obtain ⟨x2, hx2⟩ : ∃ x, x1 ++ trs1 = x := ⟨_, rfl⟩
  rw [hx2] at a2 a3
  unfold instW at hW1
  clear hk ho h1 h2 h3 h4 hof l0 l1 l2 l3 l4 htx hplace lp hnm htrd htrs1 htrs2 htn htp hx1 hx2 
  go_enter Tryz.func31, Tryz.ntmps31
  go_upto_region 1 with fail
  (try rw [hW1])
  clear hW1
  obtain ⟨c0, c1, c2, c3, c4⟩ := HCE.out W1 (Below.refl _ _)
  go_wp2_with (first
    | (go_at_call 72; refine (HR_rs1.out _).mono ?_; rintro e w4 ⟨rfl, hb⟩; have HX4 := Lib.hid (boxN_below HX3.out hb); have HB4 := Lib.hid (HB3.out.trans (hb.mono HB3.out.size)); have x1 := HX4.out.cell 1; have x1 : w4.cell? ⟨w2.heap.size, 1, none⟩ = some (.int .i64 9) := x1; have x0 : w4.cell? ⟨w2.heap.size, 0, none⟩ = some (.string ⟨nm.toArray⟩) := HX4.out.cell 0; clear hb)
    | (go_at_call 49; refine (HN.out _).mono ?_; rintro e w3 ⟨rfl, hb⟩; have HX3 := Lib.hid (HX2.out.below hb (by simp)); have hb9 := (bAlloc (Below.refl w2.heap.size w2) _).trans (hb.mono (Nat.le_of_lt (by simp))); have HB3 := Lib.hid (HB2.out.trans (hb9.mono HB2.out.size)); obtain ⟨-, -, e2, -, -⟩ := HCE.out w3 HB3.out; clear hb hb9)
    | (go_at_call 57; refine (HO.out _).mono ?_; rintro e w2 ⟨rfl, hb⟩; have HB2 := Lib.hid hb; have HX2 := Lib.hid (BoxN.new w2 #[.string ⟨nm.toArray⟩, .int .i64 9, .int .i64 r2, .int .i64 r3, .int .i64 r4, .int .i64 r5] 85); obtain ⟨-, -, -, -, d4⟩ := HCE.out (w2.alloc (.cells #[.string ⟨nm.toArray⟩, .int .i64 9, .int .i64 r2, .int .i64 r3, .int .i64 r4, .int .i64 r5] 85)) (bAlloc hb _); clear hb))
  go_ret
  exact ⟨rfl, HBW.out.trans (HB4.out.mono HBW.out.size)⟩
set_option maxRecDepth 100000 in
set_option maxHeartbeats 2000000 in
theorem rtext_10 (op rd rs1 rs2 n : Int) (w : World) (hk : kindA op = 10) (ho : 1 ≤ op ∧ op ≤ 82) (h1 : 0 ≤ rd ∧ rd < 32) (h2 : 0 ≤ rs1 ∧ rs1 < 32) (h3 : 0 ≤ rs2 ∧ rs2 < 32) (h4 : -2147483648 ≤ n ∧ n < 2147483648) : RTextP op rd rs1 rs2 n w := by
  unfold RTextP
  have HCE := Lib.hid (fun W hb => inst_cells w W op rd rs1 rs2 n hb)
  obtain ⟨W1, hW1⟩ : ∃ W1, instW w op rd rs1 rs2 n = W1 := ⟨_, rfl⟩
  have HBW := Lib.hid (below_inst w op rd rs1 rs2 n)
  rw [hW1] at HCE HBW
  obtain ⟨r2, r3, r4, r5, hof⟩ := rof_kind op 10 hk
  have HO := Lib.hid hof
  have HN := Lib.hid (fun W => rnum_any n W (by omega) (by omega))
  have HR_rd := Lib.hid (fun W => rreg_any rd W h1)
  have HR_rs1 := Lib.hid (fun W => rreg_any rs1 W h2)
  have HR_rs2 := Lib.hid (fun W => rreg_any rs2 W h3)
  have l0 := opN_le op ho.1 ho.2
  have l1 := regT_le h1.1 h1.2
  have l2 := regT_le h2.1 h2.2
  have l3 := regT_le h3.1 h3.2
  have l4 := itoa_le (n := n) (by omega) (by omega)
  have htx : textF op rd rs1 rs2 n = opN op ++ tailT (opdF 10 rd rs1 rs2 n) := by unfold textF; rw [hk]
  rw [htx]
  rw [show opdF 10 rd rs1 rs2 n = [regT rs1, regT rs2] from rfl, show tailT [regT rs1, regT rs2] = 32 :: Lib.join [regT rs1, regT rs2] sepT from rfl, join2]
  have hplace : placeT n rs1 = ((Lib.itoa n ++ [40]) ++ regT rs1) ++ [41] := by unfold placeT; simp
  have lp : (placeT n rs1).length ≤ 60 := by rw [hplace]; simp only [List.length_append, List.length_cons, List.length_nil]; omega
  obtain ⟨nm, hnm⟩ : ∃ nm, opN op = nm := ⟨_, rfl⟩
  obtain ⟨trd, htrd⟩ : ∃ t, regT rd = t := ⟨_, rfl⟩
  obtain ⟨trs1, htrs1⟩ : ∃ t, regT rs1 = t := ⟨_, rfl⟩
  obtain ⟨trs2, htrs2⟩ : ∃ t, regT rs2 = t := ⟨_, rfl⟩
  obtain ⟨tn, htn⟩ : ∃ t, Lib.itoa n = t := ⟨_, rfl⟩
  obtain ⟨tp, htp⟩ : ∃ t, placeT n rs1 = t := ⟨_, rfl⟩
  simp only [hnm, htrd, htrs1, htrs2, htn, htp] at *
  have a1 := add_l tn [40] (tn ++ [40]) rfl (by omega) (by decide)
  have a2 := add_l (tn ++ [40]) trs1 ((tn ++ [40]) ++ trs1) rfl (by simp only [List.length_append, List.length_cons, List.length_nil]; omega) (by omega)
  have a3 := add_l ((tn ++ [40]) ++ trs1) [41] tp hplace.symm (by simp only [List.length_append, List.length_cons, List.length_nil]; omega) (by decide)
  obtain ⟨x1, hx1⟩ : ∃ x, tn ++ [40] = x := ⟨_, rfl⟩
  rw [hx1] at a1 a2 a3
  obtain ⟨x2, hx2⟩ : ∃ x, x1 ++ trs1 = x := ⟨_, rfl⟩
  rw [hx2] at a2 a3
  have b0 := add_l (nm) ([32]) ((nm) ++ [32]) rfl (by first | omega | (simp only [List.length_append, List.length_cons, List.length_nil]; omega)) (by first | omega | decide)
  have b1 := add_l ((nm) ++ [32]) (trs1) (((nm) ++ [32]) ++ trs1) rfl (by first | omega | (simp only [List.length_append, List.length_cons, List.length_nil]; omega)) (by first | omega | decide)
  have b2 := add_l (((nm) ++ [32]) ++ trs1) ([44, 32]) ((((nm) ++ [32]) ++ trs1) ++ [44, 32]) rfl (by first | omega | (simp only [List.length_append, List.length_cons, List.length_nil]; omega)) (by first | omega | decide)
  have b3 := add_l ((((nm) ++ [32]) ++ trs1) ++ [44, 32]) (trs2) (((((nm) ++ [32]) ++ trs1) ++ [44, 32]) ++ trs2) rfl (by first | omega | (simp only [List.length_append, List.length_cons, List.length_nil]; omega)) (by first | omega | decide)
  have hfin : ((((nm) ++ [32]) ++ trs1) ++ [44, 32]) ++ trs2 = nm ++ 32 :: (trs1 ++ ([44, 32] ++ trs2)) := by simp
  rw [← hfin]
  obtain ⟨y0, hy0⟩ : ∃ y, nm ++ [32] = y := ⟨_, rfl⟩
  simp only [hy0] at b0 b1 b2 b3 ⊢
  obtain ⟨y1, hy1⟩ : ∃ y, y0 ++ trs1 = y := ⟨_, rfl⟩
  simp only [hy1] at b1 b2 b3 ⊢
  obtain ⟨y2, hy2⟩ : ∃ y, y1 ++ [44, 32] = y := ⟨_, rfl⟩
  simp only [hy2] at b2 b3 ⊢
  obtain ⟨y3, hy3⟩ : ∃ y, y2 ++ trs2 = y := ⟨_, rfl⟩
  simp only [hy3] at b3 ⊢
  unfold instW at hW1
  clear hk ho h1 h2 h3 h4 hof l0 l1 l2 l3 l4 htx hplace lp hnm htrd htrs1 htrs2 htn htp hx1 hx2 hy0 hy1 hy2 hy3 hfin
  go_enter Tryz.func31, Tryz.ntmps31
  go_upto_region 1 with fail
  (try rw [hW1])
  clear hW1
  obtain ⟨c0, c1, c2, c3, c4⟩ := HCE.out W1 (Below.refl _ _)
  go_wp2_with (first
    | (go_at_call 72; refine (HR_rs1.out _).mono ?_; rintro e w4 ⟨rfl, hb⟩; have HX4 := Lib.hid (boxN_below HX3.out hb); have HB4 := Lib.hid (HB3.out.trans (hb.mono HB3.out.size)); have x1 := HX4.out.cell 1; have x1 : w4.cell? ⟨w2.heap.size, 1, none⟩ = some (.int .i64 10) := x1; have x0 : w4.cell? ⟨w2.heap.size, 0, none⟩ = some (.string ⟨nm.toArray⟩) := HX4.out.cell 0; clear hb)
    | (go_at_call 49; refine (HN.out _).mono ?_; rintro e w3 ⟨rfl, hb⟩; have HX3 := Lib.hid (HX2.out.below hb (by simp)); have hb9 := (bAlloc (Below.refl w2.heap.size w2) _).trans (hb.mono (Nat.le_of_lt (by simp))); have HB3 := Lib.hid (HB2.out.trans (hb9.mono HB2.out.size)); obtain ⟨-, -, e2, -, -⟩ := HCE.out w3 HB3.out; clear hb hb9)
    | (go_at_call 57; refine (HO.out _).mono ?_; rintro e w2 ⟨rfl, hb⟩; have HB2 := Lib.hid hb; have HX2 := Lib.hid (BoxN.new w2 #[.string ⟨nm.toArray⟩, .int .i64 10, .int .i64 r2, .int .i64 r3, .int .i64 r4, .int .i64 r5] 85); obtain ⟨-, -, -, -, d4⟩ := HCE.out (w2.alloc (.cells #[.string ⟨nm.toArray⟩, .int .i64 10, .int .i64 r2, .int .i64 r3, .int .i64 r4, .int .i64 r5] 85)) (bAlloc hb _); clear hb))
  clear c0 c1 c2 c3 c4 d4 e2 x0 x1
  go_region_held3 (fun W => W.cell? ⟨w2.heap.size, 0, none⟩ = some (.string ⟨nm.toArray⟩) ∧ W.cell? ⟨w.heap.size, 2, none⟩ = some (.int .i64 rs1) ∧ W.cell? ⟨w.heap.size, 3, none⟩ = some (.int .i64 rs2))
    (first | with_reducible exact ⟨HX4.out.cell 0, (HCE.out _ HB4.out).2.2.1, (HCE.out _ HB4.out).2.2.2.1⟩ | with_reducible exact ⟨HX4.out.cell 0, (HCE.out _ (Below.drew HB4.out)).2.2.1, (HCE.out _ (Below.drew HB4.out)).2.2.2.1⟩ | with_reducible exact ⟨HQ0.out.cell 0, (HCE.out _ HV0.out).2.2.1, (HCE.out _ HV0.out).2.2.2.1⟩ | with_reducible exact ⟨HQ1.out.cell 0, (HCE.out _ HV1.out).2.2.1, (HCE.out _ HV1.out).2.2.2.1⟩ | exact ⟨HX4.out.cell 0, (HCE.out _ HB4.out).2.2.1, (HCE.out _ HB4.out).2.2.2.1⟩ | exact ⟨HX4.out.cell 0, (HCE.out _ (Below.drew HB4.out)).2.2.1, (HCE.out _ (Below.drew HB4.out)).2.2.2.1⟩ | exact ⟨HQ0.out.cell 0, (HCE.out _ HV0.out).2.2.1, (HCE.out _ HV0.out).2.2.2.1⟩ | exact ⟨HQ1.out.cell 0, (HCE.out _ HV1.out).2.2.1, (HCE.out _ HV1.out).2.2.2.1⟩ | go_keep)
    (first
      | (go_at_call 72; have hz := HV0; clear hz; (with_reducible refine (HR_rs2.out v0).mono ?_); rintro e v1 ⟨rfl, hb⟩; have HV1 := Lib.hid (HV0.out.trans (hb.mono HV0.out.size)); have HQ1 := Lib.hid (boxN_below HQ0.out hb); clear hb)
      | (go_at_call 72; (with_reducible refine (HR_rs1.out w4.drew).mono ?_); rintro e v0 ⟨rfl, hb⟩; have HV0 := Lib.hid ((Below.drew HB4.out).trans (hb.mono (Below.drew HB4.out).size)); have HQ0 := Lib.hid (boxN_below (BoxN.drew HX4.out) hb); clear hb))
  all_goals go_wp2_with fail
  all_goals
    go_ret
    exact ⟨rfl, HBW.out.trans (HV1.out.mono HBW.out.size)⟩
theorem rtext_any (op : Int) (x : Ins) (w : World) (hk : okI op x = true) : RTextP op x.rd x.rs1 x.rs2 x.n w := by
  obtain ⟨h1, h2, h3, h4⟩ := okI_parts hk
  obtain ⟨f1, f2, f3⟩ := regsB_fit h3
  obtain ⟨a1, a2, -⟩ := fitB_in f1
  obtain ⟨b1, b2, -⟩ := fitB_in f2
  obtain ⟨c1, c2, -⟩ := fitB_in f3
  have hi := immB_in h4
  have hkk : kindA op = kindZ (bareN op) := if_pos ⟨h1, h2⟩
  rcases kinds_op op h1 h2 with h | h | h | h | h | h | h | h | h | h
  · exact rtext_1 op _ _ _ _ w (hkk.trans h) ⟨h1, h2⟩ ⟨a1, a2⟩ ⟨b1, b2⟩ ⟨c1, c2⟩ hi
  · exact rtext_2 op _ _ _ _ w (hkk.trans h) ⟨h1, h2⟩ ⟨a1, a2⟩ ⟨b1, b2⟩ ⟨c1, c2⟩ hi
  · exact rtext_3 op _ _ _ _ w (hkk.trans h) ⟨h1, h2⟩ ⟨a1, a2⟩ ⟨b1, b2⟩ ⟨c1, c2⟩ hi
  · exact rtext_4 op _ _ _ _ w (hkk.trans h) ⟨h1, h2⟩ ⟨a1, a2⟩ ⟨b1, b2⟩ ⟨c1, c2⟩ hi
  · exact rtext_5 op _ _ _ _ w (hkk.trans h) ⟨h1, h2⟩ ⟨a1, a2⟩ ⟨b1, b2⟩ ⟨c1, c2⟩ hi
  · exact rtext_6 op _ _ _ _ w (hkk.trans h) ⟨h1, h2⟩ ⟨a1, a2⟩ ⟨b1, b2⟩ ⟨c1, c2⟩ hi
  · exact rtext_7 op _ _ _ _ w (hkk.trans h) ⟨h1, h2⟩ ⟨a1, a2⟩ ⟨b1, b2⟩ ⟨c1, c2⟩ hi
  · exact rtext_8 op _ _ _ _ w (hkk.trans h) ⟨h1, h2⟩ ⟨a1, a2⟩ ⟨b1, b2⟩ ⟨c1, c2⟩ hi
  · exact rtext_9 op _ _ _ _ w (hkk.trans h) ⟨h1, h2⟩ ⟨a1, a2⟩ ⟨b1, b2⟩ ⟨c1, c2⟩ hi
  · exact rtext_10 op _ _ _ _ w (hkk.trans h) ⟨h1, h2⟩ ⟨a1, a2⟩ ⟨b1, b2⟩ ⟨c1, c2⟩ hi
set_option maxHeartbeats 1000000 in
theorem rprint_any (op : Int) (x : Ins) (w : World) (hi : I64 x.n) :
    Calls Tryz.prog 14 #[.agg #[.int .i64 op, .int .i64 x.rd, .int .i64 x.rs1, .int .i64 x.rs2, .int .i64 x.n]] w fun e w' => e = .returned (.tuple #[.string ⟨(priT op x).toArray⟩, .int .i64 (priE op x)]) ∧ Below w.heap.size w w' := by
  have HE := Lib.hid (fun W => rencode_any op x.rd x.rs1 x.rs2 x.n W)
  have HT := Lib.hid (fun W h => rtext_any op x W h)
  unfold RTextP at HT
  unfold instV encE at HE
  rw [right_ok] at HE
  unfold priT priE
  obtain ⟨v, hv⟩ : ∃ v, encR op x.rd x.rs1 x.rs2 x.n = v := ⟨_, rfl⟩
  rw [hv] at HE
  clear hv
  obtain ⟨rd, rs1, rs2, n⟩ := x
  simp only [] at HE HT ⊢
  have HX0 := Lib.hid (BoxN.new w #[.int .i64 op, .int .i64 rd, .int .i64 rs1, .int .i64 rs2, .int .i64 n] 23)
  have HB0 := Lib.hid (bAlloc (Below.refl w.heap.size w) (.cells #[.int .i64 op, .int .i64 rd, .int .i64 rs1, .int .i64 rs2, .int .i64 n] 23))
  by_cases hok : okI op ⟨rd, rs1, rs2, n⟩ = true
  · rw [if_pos hok, if_pos hok]
    rw [if_pos hok] at HE
    have HTT := Lib.hid (fun W => HT.out W hok)
    obtain ⟨t, ht⟩ : ∃ t, textF op rd rs1 rs2 n = t := ⟨_, rfl⟩
    rw [ht] at HTT ⊢
    clear HT hok ht hi
    go_enter Tryz.func14, Tryz.ntmps14
    go_wp2_with (first
      | (go_at_call 24; refine (HE.out _).mono ?_; rintro e w1 ⟨rfl, hb⟩; have HB1 := Lib.hid (HB0.out.trans (hb.mono HB0.out.size)); obtain ⟨⟨q0, q1, q2, q3, q4⟩, -⟩ := box5 (boxN_below HX0.out hb); clear hb)
      | (go_at_call 31; refine (HTT.out _).mono ?_; rintro e w2 ⟨rfl, hb⟩; have HB2 := Lib.hid (HB1.out.trans (hb.mono HB1.out.size)); clear hb))
    go_ret2
    exact ⟨rfl, HB2.out⟩
  · rw [if_neg hok, if_neg hok]
    rw [if_neg hok] at HE
    clear HT hok hi
    go_enter Tryz.func14, Tryz.ntmps14
    go_wp2_with (go_at_call 24; refine (HE.out _).mono ?_; rintro e w1 ⟨rfl, hb⟩; have HB1 := Lib.hid (HB0.out.trans (hb.mono HB0.out.size)); obtain ⟨⟨q0, q1, q2, q3, q4⟩, -⟩ := box5 (boxN_below HX0.out hb); clear hb)
    go_ret2
    exact ⟨rfl, HB1.out⟩
end Go.Proofs.YtdpmihlmfephiaaGreatDoor
