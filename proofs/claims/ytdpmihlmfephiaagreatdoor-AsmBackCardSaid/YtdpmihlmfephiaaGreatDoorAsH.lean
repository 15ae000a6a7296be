/- An instruction's text: the program's operands and Print. -/
import Derived.Test.YtdpmihlmfephiaaGreatDoorAsG
import Derived.Test.YtdpmihlmfephiaaGreatDoorIsaJ
namespace Go.Proofs.YtdpmihlmfephiaaGreatDoor
set_option linter.unusedVariables false
set_option linter.unusedSimpArgs false
open Go.Joins Go.ChangeShapes Go.WideShapes Go.ChangeAt Go.RowKit Go.Deep

theorem i64_le {n : Int} (h : I64 n) : n ≤ 9223372036854775807 := by have := h.2; omega
def OpdPost (xs : List (List UInt8)) (w : World) (e : Ending) (w' : World) : Prop :=
  (xs = [] ∧ e = .returned (.slice none 0 0) ∧ Below w.heap.size w w') ∨ ∃ B, e = .returned (.slice (some ⟨B, 0, none⟩) xs.length xs.length) ∧ TX w' B xs ∧ Below w.heap.size w w'
def instW (w : World) (op rd rs1 rs2 n : Int) : World := w.alloc (.cells #[.int .i64 op, .int .i64 rd, .int .i64 rs1, .int .i64 rs2, .int .i64 n] 23)
theorem inst_cells (w W : World) (op rd rs1 rs2 n : Int) (hb : Below (instW w op rd rs1 rs2 n).heap.size (instW w op rd rs1 rs2 n) W) :
    W.cell? ⟨w.heap.size, 0, none⟩ = some (.int .i64 op) ∧ W.cell? ⟨w.heap.size, 1, none⟩ = some (.int .i64 rd) ∧ W.cell? ⟨w.heap.size, 2, none⟩ = some (.int .i64 rs1) ∧ W.cell? ⟨w.heap.size, 3, none⟩ = some (.int .i64 rs2) ∧ W.cell? ⟨w.heap.size, 4, none⟩ = some (.int .i64 n) := by
  have hlt : w.heap.size < (instW w op rd rs1 rs2 n).heap.size := by unfold instW; simp
  have hc := fun j => hb.cell (p := ⟨w.heap.size, j, none⟩) hlt
  have h0 : ∀ j, (instW w op rd rs1 rs2 n).cell? ⟨w.heap.size, j, none⟩ = #[Value.int .i64 op, .int .i64 rd, .int .i64 rs1, .int .i64 rs2, .int .i64 n][j]? := fun j => by unfold instW; rw [World.cell?_alloc_new]
  exact ⟨(hc 0).trans (h0 0), (hc 1).trans (h0 1), (hc 2).trans (h0 2), (hc 3).trans (h0 3), (hc 4).trans (h0 4)⟩
theorem below_inst (w : World) (op rd rs1 rs2 n : Int) : Below w.heap.size w (instW w op rd rs1 rs2 n) := bAlloc (Below.refl _ _) _
theorem tx_new (W : World) (xs : List (List UInt8)) (t : TypeId) (A : Array Value) (hA : A = (xs.map strV).toArray) : TX (W.alloc (.cells A t)) W.heap.size xs := by
  subst hA
  refine ⟨by simp, fun j x hx => ?_⟩
  rw [World.cell?_alloc_new]
  simp [hx]
theorem place_add (n r : Int) (h0 : -9223372036854775808 ≤ n) (h1 : n ≤ 9223372036854775807) (h2 : -9223372036854775808 ≤ r) (h3 : r ≤ 9223372036854775807) :
    (∀ W : World, (Op.stringOp .add ⟨(Lib.itoa n).toArray⟩ ⟨#[40]⟩).run Tryz.prog W = .ok (.string ⟨(Lib.itoa n ++ [40]).toArray⟩) W) ∧
    (∀ W : World, (Op.stringOp .add ⟨(Lib.itoa n ++ [40]).toArray⟩ ⟨(regT r).toArray⟩).run Tryz.prog W = .ok (.string ⟨(Lib.itoa n ++ 40 :: regT r).toArray⟩) W) ∧
    (∀ W : World, (Op.stringOp .add ⟨(Lib.itoa n ++ 40 :: regT r).toArray⟩ ⟨#[41]⟩).run Tryz.prog W = .ok (.string ⟨(placeT n r).toArray⟩) W) := by
  have l1 := Lib.itoa_length_le n h0 h1
  have l2 := Lib.itoa_length_le r h2 h3
  have l3 : (regT r).length ≤ 22 := by unfold regT; rw [List.length_cons]; omega
  refine ⟨add_l _ [40] _ rfl (by omega) (by decide), add_l _ _ _ (by simp) (by rw [List.length_append]; simp only [List.length_cons, List.length_nil]; omega) (by omega), add_l _ [41] _ (by unfold placeT; simp) (by rw [List.length_append]; simp only [List.length_cons, List.length_nil]; omega) (by decide)⟩
set_option maxRecDepth 100000 in
set_option maxHeartbeats 2000000 in
theorem opd_1 (op rd rs1 rs2 n : Int) (w : World) (hn : NA w) (hk : kindA op = 1) (h1 : I64 rd) (h2 : I64 rs1) (h3 : I64 rs2) (h4 : I64 n) :
    Calls Tryz.prog 29 #[.agg #[.int .i64 op, .int .i64 rd, .int .i64 rs1, .int .i64 rs2, .int .i64 n]] w (OpdPost [regT rd, regT rs1, regT rs2] w) := by
  have HCE := Lib.hid (fun W hb => inst_cells w W op rd rs1 rs2 n hb)
  obtain ⟨W1, hW1⟩ : ∃ W1, instW w op rd rs1 rs2 n = W1 := ⟨_, rfl⟩
  have HBW := Lib.hid (below_inst w op rd rs1 rs2 n)
  have HNW := Lib.hid (hn.on (below_inst w op rd rs1 rs2 n))
  rw [hW1] at HCE HBW HNW
  have HF := Lib.hid (fmt_any n W1 HNW.out h4.1 (i64_le h4))
  have HK := Lib.hid (fun W (hW : NA W) => kind_any op W hW.nt)
  rw [kindA_eq, hk] at HK
  have HR_rd := Lib.hid (fun W (hW : NA W) => register_any rd W hW h1.1 (i64_le h1))
  have HR_rs1 := Lib.hid (fun W (hW : NA W) => register_any rs1 W hW h2.1 (i64_le h2))
  have HR_rs2 := Lib.hid (fun W (hW : NA W) => register_any rs2 W hW h3.1 (i64_le h3))
  unfold instW at hW1
  clear hn hk h1 h2 h3 h4
  go_enter Tryz.func29, Tryz.ntmps29
  go_upto_region 1 with fail
  (try rw [hW1])
  clear hW1
  obtain ⟨c0, c1, c2, c3, c4⟩ := HCE.out W1 (Below.refl _ _)
  go_wp2_with (first
    | (go_at_call 69; refine HF.out.mono ?_; rintro e w2 ⟨rfl, hb⟩; have HB2 := Lib.hid hb; have HN2 := Lib.hid (HNW.out.on hb); obtain ⟨d0, d1, d2, d3, d4⟩ := HCE.out w2 hb; clear hb)
    | (go_at_call 36; refine (HK.out _ HN2.out).mono ?_; rintro e w3 ⟨rfl, hb⟩; have HN3 := Lib.hid (HN2.out.on hb); have HB3 := Lib.hid (HB2.out.trans (hb.mono HB2.out.size)); clear hb))
  clear c0 c1 c2 c3 c4 d0 d1 d2 d3 d4
  go_region_held3 (fun W => W.cell? ⟨w.heap.size, 1, none⟩ = some (.int .i64 rd) ∧ W.cell? ⟨w.heap.size, 2, none⟩ = some (.int .i64 rs1) ∧ W.cell? ⟨w.heap.size, 3, none⟩ = some (.int .i64 rs2))
    (first | with_reducible exact ⟨(HCE.out _ HB3.out).2.1, (HCE.out _ HB3.out).2.2.1, (HCE.out _ HB3.out).2.2.2.1⟩ | with_reducible exact ⟨(HCE.out _ (Below.drew HB3.out)).2.1, (HCE.out _ (Below.drew HB3.out)).2.2.1, (HCE.out _ (Below.drew HB3.out)).2.2.2.1⟩ | with_reducible exact ⟨(HCE.out _ HV0.out).2.1, (HCE.out _ HV0.out).2.2.1, (HCE.out _ HV0.out).2.2.2.1⟩ | with_reducible exact ⟨(HCE.out _ HV1.out).2.1, (HCE.out _ HV1.out).2.2.1, (HCE.out _ HV1.out).2.2.2.1⟩ | with_reducible exact ⟨(HCE.out _ HV2.out).2.1, (HCE.out _ HV2.out).2.2.1, (HCE.out _ HV2.out).2.2.2.1⟩ | go_keep)
    (first
      | (go_at_call 70; (with_reducible refine (HR_rd.out _ (HN3.out.drew)).mono ?_); rintro e v0 ⟨rfl, hb⟩; have HV0 := Lib.hid ((Below.drew HB3.out).trans (hb.mono (Below.drew HB3.out).size)); have HM0 := Lib.hid ((HN3.out.drew).on hb); clear hb)
      | (go_at_call 70; (with_reducible refine (HR_rs1.out _ HM0.out).mono ?_); rintro e v1 ⟨rfl, hb⟩; have HV1 := Lib.hid (HV0.out.trans (hb.mono HV0.out.size)); have HM1 := Lib.hid (HM0.out.on hb); clear hb)
      | (go_at_call 70; (with_reducible refine (HR_rs2.out _ HM1.out).mono ?_); rintro e v2 ⟨rfl, hb⟩; have HV2 := Lib.hid (HV1.out.trans (hb.mono HV1.out.size)); have HM2 := Lib.hid (HM1.out.on hb); clear hb))
  all_goals go_wp2_with fail
  all_goals
    go_ret
    refine .inr ⟨_, rfl, ?_, ?_⟩
    · exact tx_new _ _ _ _ rfl
    · exact bAlloc (HBW.out.trans (HV2.out.mono HBW.out.size)) _
set_option maxRecDepth 100000 in
set_option maxHeartbeats 2000000 in
theorem opd_2 (op rd rs1 rs2 n : Int) (w : World) (hn : NA w) (hk : kindA op = 2) (h1 : I64 rd) (h2 : I64 rs1) (h3 : I64 rs2) (h4 : I64 n) :
    Calls Tryz.prog 29 #[.agg #[.int .i64 op, .int .i64 rd, .int .i64 rs1, .int .i64 rs2, .int .i64 n]] w (OpdPost [regT rd, regT rs1, Lib.itoa n] w) := by
  have HCE := Lib.hid (fun W hb => inst_cells w W op rd rs1 rs2 n hb)
  obtain ⟨W1, hW1⟩ : ∃ W1, instW w op rd rs1 rs2 n = W1 := ⟨_, rfl⟩
  have HBW := Lib.hid (below_inst w op rd rs1 rs2 n)
  have HNW := Lib.hid (hn.on (below_inst w op rd rs1 rs2 n))
  rw [hW1] at HCE HBW HNW
  have HF := Lib.hid (fmt_any n W1 HNW.out h4.1 (i64_le h4))
  have HK := Lib.hid (fun W (hW : NA W) => kind_any op W hW.nt)
  rw [kindA_eq, hk] at HK
  have HR_rd := Lib.hid (fun W (hW : NA W) => register_any rd W hW h1.1 (i64_le h1))
  have HR_rs1 := Lib.hid (fun W (hW : NA W) => register_any rs1 W hW h2.1 (i64_le h2))
  unfold instW at hW1
  clear hn hk h1 h2 h3 h4
  go_enter Tryz.func29, Tryz.ntmps29
  go_upto_region 1 with fail
  (try rw [hW1])
  clear hW1
  obtain ⟨c0, c1, c2, c3, c4⟩ := HCE.out W1 (Below.refl _ _)
  go_wp2_with (first
    | (go_at_call 69; refine HF.out.mono ?_; rintro e w2 ⟨rfl, hb⟩; have HB2 := Lib.hid hb; have HN2 := Lib.hid (HNW.out.on hb); obtain ⟨d0, d1, d2, d3, d4⟩ := HCE.out w2 hb; clear hb)
    | (go_at_call 36; refine (HK.out _ HN2.out).mono ?_; rintro e w3 ⟨rfl, hb⟩; have HN3 := Lib.hid (HN2.out.on hb); have HB3 := Lib.hid (HB2.out.trans (hb.mono HB2.out.size)); clear hb))
  clear c0 c1 c2 c3 c4 d0 d1 d2 d3 d4
  go_region_held3 (fun W => W.cell? ⟨w.heap.size, 1, none⟩ = some (.int .i64 rd) ∧ W.cell? ⟨w.heap.size, 2, none⟩ = some (.int .i64 rs1))
    (first | with_reducible exact ⟨(HCE.out _ HB3.out).2.1, (HCE.out _ HB3.out).2.2.1⟩ | with_reducible exact ⟨(HCE.out _ (Below.drew HB3.out)).2.1, (HCE.out _ (Below.drew HB3.out)).2.2.1⟩ | with_reducible exact ⟨(HCE.out _ HV0.out).2.1, (HCE.out _ HV0.out).2.2.1⟩ | with_reducible exact ⟨(HCE.out _ HV1.out).2.1, (HCE.out _ HV1.out).2.2.1⟩ | go_keep)
    (first
      | (go_at_call 70; (with_reducible refine (HR_rd.out _ (HN3.out.drew)).mono ?_); rintro e v0 ⟨rfl, hb⟩; have HV0 := Lib.hid ((Below.drew HB3.out).trans (hb.mono (Below.drew HB3.out).size)); have HM0 := Lib.hid ((HN3.out.drew).on hb); clear hb)
      | (go_at_call 70; (with_reducible refine (HR_rs1.out _ HM0.out).mono ?_); rintro e v1 ⟨rfl, hb⟩; have HV1 := Lib.hid (HV0.out.trans (hb.mono HV0.out.size)); have HM1 := Lib.hid (HM0.out.on hb); clear hb))
  all_goals go_wp2_with fail
  all_goals
    go_ret
    refine .inr ⟨_, rfl, ?_, ?_⟩
    · exact tx_new _ _ _ _ rfl
    · exact bAlloc (HBW.out.trans (HV1.out.mono HBW.out.size)) _
set_option maxRecDepth 100000 in
set_option maxHeartbeats 2000000 in
theorem opd_3 (op rd rs1 rs2 n : Int) (w : World) (hn : NA w) (hk : kindA op = 3) (h1 : I64 rd) (h2 : I64 rs1) (h3 : I64 rs2) (h4 : I64 n) :
    Calls Tryz.prog 29 #[.agg #[.int .i64 op, .int .i64 rd, .int .i64 rs1, .int .i64 rs2, .int .i64 n]] w (OpdPost [regT rd, placeT n rs1] w) := by
  have HCE := Lib.hid (fun W hb => inst_cells w W op rd rs1 rs2 n hb)
  obtain ⟨W1, hW1⟩ : ∃ W1, instW w op rd rs1 rs2 n = W1 := ⟨_, rfl⟩
  have HBW := Lib.hid (below_inst w op rd rs1 rs2 n)
  have HNW := Lib.hid (hn.on (below_inst w op rd rs1 rs2 n))
  rw [hW1] at HCE HBW HNW
  have HF := Lib.hid (fmt_any n W1 HNW.out h4.1 (i64_le h4))
  have HK := Lib.hid (fun W (hW : NA W) => kind_any op W hW.nt)
  rw [kindA_eq, hk] at HK
  have HR_rd := Lib.hid (fun W (hW : NA W) => register_any rd W hW h1.1 (i64_le h1))
  have HR_rs1 := Lib.hid (fun W (hW : NA W) => register_any rs1 W hW h2.1 (i64_le h2))
  obtain ⟨k1, k2, k3⟩ := place_add n rs1 h4.1 (i64_le h4) h2.1 (i64_le h2)
  unfold instW at hW1
  clear hn hk h1 h2 h3 h4
  go_enter Tryz.func29, Tryz.ntmps29
  go_upto_region 1 with fail
  (try rw [hW1])
  clear hW1
  obtain ⟨c0, c1, c2, c3, c4⟩ := HCE.out W1 (Below.refl _ _)
  go_wp2_with (first
    | (go_at_call 69; refine HF.out.mono ?_; rintro e w2 ⟨rfl, hb⟩; have HB2 := Lib.hid hb; have HN2 := Lib.hid (HNW.out.on hb); obtain ⟨d0, d1, d2, d3, d4⟩ := HCE.out w2 hb; clear hb)
    | (go_at_call 36; refine (HK.out _ HN2.out).mono ?_; rintro e w3 ⟨rfl, hb⟩; have HN3 := Lib.hid (HN2.out.on hb); have HB3 := Lib.hid (HB2.out.trans (hb.mono HB2.out.size)); clear hb))
  clear c0 c1 c2 c3 c4 d0 d1 d2 d3 d4
  go_region_held3 (fun W => W.cell? ⟨w.heap.size, 1, none⟩ = some (.int .i64 rd) ∧ W.cell? ⟨w.heap.size, 2, none⟩ = some (.int .i64 rs1))
    (first | with_reducible exact ⟨(HCE.out _ HB3.out).2.1, (HCE.out _ HB3.out).2.2.1⟩ | with_reducible exact ⟨(HCE.out _ (Below.drew HB3.out)).2.1, (HCE.out _ (Below.drew HB3.out)).2.2.1⟩ | with_reducible exact ⟨(HCE.out _ HV0.out).2.1, (HCE.out _ HV0.out).2.2.1⟩ | with_reducible exact ⟨(HCE.out _ HV1.out).2.1, (HCE.out _ HV1.out).2.2.1⟩ | go_keep)
    (first
      | (go_at_call 70; (with_reducible refine (HR_rd.out _ (HN3.out.drew)).mono ?_); rintro e v0 ⟨rfl, hb⟩; have HV0 := Lib.hid ((Below.drew HB3.out).trans (hb.mono (Below.drew HB3.out).size)); have HM0 := Lib.hid ((HN3.out.drew).on hb); clear hb)
      | (go_at_call 70; (with_reducible refine (HR_rs1.out _ HM0.out).mono ?_); rintro e v1 ⟨rfl, hb⟩; have HV1 := Lib.hid (HV0.out.trans (hb.mono HV0.out.size)); have HM1 := Lib.hid (HM0.out.on hb); clear hb))
  all_goals go_wp2_with fail
  all_goals
    go_ret
    refine .inr ⟨_, rfl, ?_, ?_⟩
    · exact tx_new _ _ _ _ rfl
    · exact bAlloc (HBW.out.trans (HV1.out.mono HBW.out.size)) _
set_option maxRecDepth 100000 in
set_option maxHeartbeats 2000000 in
theorem opd_4 (op rd rs1 rs2 n : Int) (w : World) (hn : NA w) (hk : kindA op = 4) (h1 : I64 rd) (h2 : I64 rs1) (h3 : I64 rs2) (h4 : I64 n) :
    Calls Tryz.prog 29 #[.agg #[.int .i64 op, .int .i64 rd, .int .i64 rs1, .int .i64 rs2, .int .i64 n]] w (OpdPost [regT rs2, placeT n rs1] w) := by
  have HCE := Lib.hid (fun W hb => inst_cells w W op rd rs1 rs2 n hb)
  obtain ⟨W1, hW1⟩ : ∃ W1, instW w op rd rs1 rs2 n = W1 := ⟨_, rfl⟩
  have HBW := Lib.hid (below_inst w op rd rs1 rs2 n)
  have HNW := Lib.hid (hn.on (below_inst w op rd rs1 rs2 n))
  rw [hW1] at HCE HBW HNW
  have HF := Lib.hid (fmt_any n W1 HNW.out h4.1 (i64_le h4))
  have HK := Lib.hid (fun W (hW : NA W) => kind_any op W hW.nt)
  rw [kindA_eq, hk] at HK
  have HR_rs2 := Lib.hid (fun W (hW : NA W) => register_any rs2 W hW h3.1 (i64_le h3))
  have HR_rs1 := Lib.hid (fun W (hW : NA W) => register_any rs1 W hW h2.1 (i64_le h2))
  obtain ⟨k1, k2, k3⟩ := place_add n rs1 h4.1 (i64_le h4) h2.1 (i64_le h2)
  unfold instW at hW1
  clear hn hk h1 h2 h3 h4
  go_enter Tryz.func29, Tryz.ntmps29
  go_upto_region 1 with fail
  (try rw [hW1])
  clear hW1
  obtain ⟨c0, c1, c2, c3, c4⟩ := HCE.out W1 (Below.refl _ _)
  go_wp2_with (first
    | (go_at_call 69; refine HF.out.mono ?_; rintro e w2 ⟨rfl, hb⟩; have HB2 := Lib.hid hb; have HN2 := Lib.hid (HNW.out.on hb); obtain ⟨d0, d1, d2, d3, d4⟩ := HCE.out w2 hb; clear hb)
    | (go_at_call 36; refine (HK.out _ HN2.out).mono ?_; rintro e w3 ⟨rfl, hb⟩; have HN3 := Lib.hid (HN2.out.on hb); have HB3 := Lib.hid (HB2.out.trans (hb.mono HB2.out.size)); clear hb))
  clear c0 c1 c2 c3 c4 d0 d1 d2 d3 d4
  go_region_held3 (fun W => W.cell? ⟨w.heap.size, 2, none⟩ = some (.int .i64 rs1) ∧ W.cell? ⟨w.heap.size, 3, none⟩ = some (.int .i64 rs2))
    (first | with_reducible exact ⟨(HCE.out _ HB3.out).2.2.1, (HCE.out _ HB3.out).2.2.2.1⟩ | with_reducible exact ⟨(HCE.out _ (Below.drew HB3.out)).2.2.1, (HCE.out _ (Below.drew HB3.out)).2.2.2.1⟩ | with_reducible exact ⟨(HCE.out _ HV0.out).2.2.1, (HCE.out _ HV0.out).2.2.2.1⟩ | with_reducible exact ⟨(HCE.out _ HV1.out).2.2.1, (HCE.out _ HV1.out).2.2.2.1⟩ | go_keep)
    (first
      | (go_at_call 70; (with_reducible refine (HR_rs2.out _ (HN3.out.drew)).mono ?_); rintro e v0 ⟨rfl, hb⟩; have HV0 := Lib.hid ((Below.drew HB3.out).trans (hb.mono (Below.drew HB3.out).size)); have HM0 := Lib.hid ((HN3.out.drew).on hb); clear hb)
      | (go_at_call 70; (with_reducible refine (HR_rs1.out _ HM0.out).mono ?_); rintro e v1 ⟨rfl, hb⟩; have HV1 := Lib.hid (HV0.out.trans (hb.mono HV0.out.size)); have HM1 := Lib.hid (HM0.out.on hb); clear hb))
  all_goals go_wp2_with fail
  all_goals
    go_ret
    refine .inr ⟨_, rfl, ?_, ?_⟩
    · exact tx_new _ _ _ _ rfl
    · exact bAlloc (HBW.out.trans (HV1.out.mono HBW.out.size)) _
set_option maxRecDepth 100000 in
set_option maxHeartbeats 2000000 in
theorem opd_5 (op rd rs1 rs2 n : Int) (w : World) (hn : NA w) (hk : kindA op = 5) (h1 : I64 rd) (h2 : I64 rs1) (h3 : I64 rs2) (h4 : I64 n) :
    Calls Tryz.prog 29 #[.agg #[.int .i64 op, .int .i64 rd, .int .i64 rs1, .int .i64 rs2, .int .i64 n]] w (OpdPost [regT rs1, regT rs2, Lib.itoa n] w) := by
  have HCE := Lib.hid (fun W hb => inst_cells w W op rd rs1 rs2 n hb)
  obtain ⟨W1, hW1⟩ : ∃ W1, instW w op rd rs1 rs2 n = W1 := ⟨_, rfl⟩
  have HBW := Lib.hid (below_inst w op rd rs1 rs2 n)
  have HNW := Lib.hid (hn.on (below_inst w op rd rs1 rs2 n))
  rw [hW1] at HCE HBW HNW
  have HF := Lib.hid (fmt_any n W1 HNW.out h4.1 (i64_le h4))
  have HK := Lib.hid (fun W (hW : NA W) => kind_any op W hW.nt)
  rw [kindA_eq, hk] at HK
  have HR_rs1 := Lib.hid (fun W (hW : NA W) => register_any rs1 W hW h2.1 (i64_le h2))
  have HR_rs2 := Lib.hid (fun W (hW : NA W) => register_any rs2 W hW h3.1 (i64_le h3))
  unfold instW at hW1
  clear hn hk h1 h2 h3 h4
  go_enter Tryz.func29, Tryz.ntmps29
  go_upto_region 1 with fail
  (try rw [hW1])
  clear hW1
  obtain ⟨c0, c1, c2, c3, c4⟩ := HCE.out W1 (Below.refl _ _)
  go_wp2_with (first
    | (go_at_call 69; refine HF.out.mono ?_; rintro e w2 ⟨rfl, hb⟩; have HB2 := Lib.hid hb; have HN2 := Lib.hid (HNW.out.on hb); obtain ⟨d0, d1, d2, d3, d4⟩ := HCE.out w2 hb; clear hb)
    | (go_at_call 36; refine (HK.out _ HN2.out).mono ?_; rintro e w3 ⟨rfl, hb⟩; have HN3 := Lib.hid (HN2.out.on hb); have HB3 := Lib.hid (HB2.out.trans (hb.mono HB2.out.size)); clear hb))
  clear c0 c1 c2 c3 c4 d0 d1 d2 d3 d4
  go_region_held3 (fun W => W.cell? ⟨w.heap.size, 2, none⟩ = some (.int .i64 rs1) ∧ W.cell? ⟨w.heap.size, 3, none⟩ = some (.int .i64 rs2))
    (first | with_reducible exact ⟨(HCE.out _ HB3.out).2.2.1, (HCE.out _ HB3.out).2.2.2.1⟩ | with_reducible exact ⟨(HCE.out _ (Below.drew HB3.out)).2.2.1, (HCE.out _ (Below.drew HB3.out)).2.2.2.1⟩ | with_reducible exact ⟨(HCE.out _ HV0.out).2.2.1, (HCE.out _ HV0.out).2.2.2.1⟩ | with_reducible exact ⟨(HCE.out _ HV1.out).2.2.1, (HCE.out _ HV1.out).2.2.2.1⟩ | go_keep)
    (first
      | (go_at_call 70; (with_reducible refine (HR_rs1.out _ (HN3.out.drew)).mono ?_); rintro e v0 ⟨rfl, hb⟩; have HV0 := Lib.hid ((Below.drew HB3.out).trans (hb.mono (Below.drew HB3.out).size)); have HM0 := Lib.hid ((HN3.out.drew).on hb); clear hb)
      | (go_at_call 70; (with_reducible refine (HR_rs2.out _ HM0.out).mono ?_); rintro e v1 ⟨rfl, hb⟩; have HV1 := Lib.hid (HV0.out.trans (hb.mono HV0.out.size)); have HM1 := Lib.hid (HM0.out.on hb); clear hb))
  all_goals go_wp2_with fail
  all_goals
    go_ret
    refine .inr ⟨_, rfl, ?_, ?_⟩
    · exact tx_new _ _ _ _ rfl
    · exact bAlloc (HBW.out.trans (HV1.out.mono HBW.out.size)) _
set_option maxRecDepth 100000 in
set_option maxHeartbeats 2000000 in
theorem opd_6 (op rd rs1 rs2 n : Int) (w : World) (hn : NA w) (hk : kindA op = 6) (h1 : I64 rd) (h2 : I64 rs1) (h3 : I64 rs2) (h4 : I64 n) :
    Calls Tryz.prog 29 #[.agg #[.int .i64 op, .int .i64 rd, .int .i64 rs1, .int .i64 rs2, .int .i64 n]] w (OpdPost [regT rd, Lib.itoa n] w) := by
  have HCE := Lib.hid (fun W hb => inst_cells w W op rd rs1 rs2 n hb)
  obtain ⟨W1, hW1⟩ : ∃ W1, instW w op rd rs1 rs2 n = W1 := ⟨_, rfl⟩
  have HBW := Lib.hid (below_inst w op rd rs1 rs2 n)
  have HNW := Lib.hid (hn.on (below_inst w op rd rs1 rs2 n))
  rw [hW1] at HCE HBW HNW
  have HF := Lib.hid (fmt_any n W1 HNW.out h4.1 (i64_le h4))
  have HK := Lib.hid (fun W (hW : NA W) => kind_any op W hW.nt)
  rw [kindA_eq, hk] at HK
  have HR_rd := Lib.hid (fun W (hW : NA W) => register_any rd W hW h1.1 (i64_le h1))
  unfold instW at hW1
  clear hn hk h1 h2 h3 h4
  go_enter Tryz.func29, Tryz.ntmps29
  go_upto_region 1 with fail
  (try rw [hW1])
  clear hW1
  obtain ⟨c0, c1, c2, c3, c4⟩ := HCE.out W1 (Below.refl _ _)
  go_wp2_with (first
    | (go_at_call 69; refine HF.out.mono ?_; rintro e w2 ⟨rfl, hb⟩; have HB2 := Lib.hid hb; have HN2 := Lib.hid (HNW.out.on hb); obtain ⟨d0, d1, d2, d3, d4⟩ := HCE.out w2 hb; clear hb)
    | (go_at_call 36; refine (HK.out _ HN2.out).mono ?_; rintro e w3 ⟨rfl, hb⟩; have HN3 := Lib.hid (HN2.out.on hb); have HB3 := Lib.hid (HB2.out.trans (hb.mono HB2.out.size)); obtain ⟨g0, g1, g2, g3, g4⟩ := HCE.out w3 (HB2.out.trans (hb.mono HB2.out.size)); clear hb)
    | (go_at_call 70; refine (HR_rd.out _ HN3.out).mono ?_; rintro e v0 ⟨rfl, hb⟩; have HV0 := Lib.hid (HB3.out.trans (hb.mono HB3.out.size)); clear hb))
  clear c0 c1 c2 c3 c4 d0 d1 d2 d3 d4
  all_goals go_wp2_with fail
  all_goals
    go_ret
    refine .inr ⟨_, rfl, ?_, ?_⟩
    · exact tx_new _ _ _ _ rfl
    · exact bAlloc (HBW.out.trans (HV0.out.mono HBW.out.size)) _
set_option maxRecDepth 100000 in
set_option maxHeartbeats 2000000 in
theorem opd_7 (op rd rs1 rs2 n : Int) (w : World) (hn : NA w) (hk : kindA op = 7) (h1 : I64 rd) (h2 : I64 rs1) (h3 : I64 rs2) (h4 : I64 n) :
    Calls Tryz.prog 29 #[.agg #[.int .i64 op, .int .i64 rd, .int .i64 rs1, .int .i64 rs2, .int .i64 n]] w (OpdPost [regT rd, Lib.itoa n] w) := by
  have HCE := Lib.hid (fun W hb => inst_cells w W op rd rs1 rs2 n hb)
  obtain ⟨W1, hW1⟩ : ∃ W1, instW w op rd rs1 rs2 n = W1 := ⟨_, rfl⟩
  have HBW := Lib.hid (below_inst w op rd rs1 rs2 n)
  have HNW := Lib.hid (hn.on (below_inst w op rd rs1 rs2 n))
  rw [hW1] at HCE HBW HNW
  have HF := Lib.hid (fmt_any n W1 HNW.out h4.1 (i64_le h4))
  have HK := Lib.hid (fun W (hW : NA W) => kind_any op W hW.nt)
  rw [kindA_eq, hk] at HK
  have HR_rd := Lib.hid (fun W (hW : NA W) => register_any rd W hW h1.1 (i64_le h1))
  unfold instW at hW1
  clear hn hk h1 h2 h3 h4
  go_enter Tryz.func29, Tryz.ntmps29
  go_upto_region 1 with fail
  (try rw [hW1])
  clear hW1
  obtain ⟨c0, c1, c2, c3, c4⟩ := HCE.out W1 (Below.refl _ _)
  go_wp2_with (first
    | (go_at_call 69; refine HF.out.mono ?_; rintro e w2 ⟨rfl, hb⟩; have HB2 := Lib.hid hb; have HN2 := Lib.hid (HNW.out.on hb); obtain ⟨d0, d1, d2, d3, d4⟩ := HCE.out w2 hb; clear hb)
    | (go_at_call 36; refine (HK.out _ HN2.out).mono ?_; rintro e w3 ⟨rfl, hb⟩; have HN3 := Lib.hid (HN2.out.on hb); have HB3 := Lib.hid (HB2.out.trans (hb.mono HB2.out.size)); obtain ⟨g0, g1, g2, g3, g4⟩ := HCE.out w3 (HB2.out.trans (hb.mono HB2.out.size)); clear hb)
    | (go_at_call 70; refine (HR_rd.out _ HN3.out).mono ?_; rintro e v0 ⟨rfl, hb⟩; have HV0 := Lib.hid (HB3.out.trans (hb.mono HB3.out.size)); clear hb))
  clear c0 c1 c2 c3 c4 d0 d1 d2 d3 d4
  all_goals go_wp2_with fail
  all_goals
    go_ret
    refine .inr ⟨_, rfl, ?_, ?_⟩
    · exact tx_new _ _ _ _ rfl
    · exact bAlloc (HBW.out.trans (HV0.out.mono HBW.out.size)) _
set_option maxRecDepth 100000 in
set_option maxHeartbeats 2000000 in
theorem opd_8 (op rd rs1 rs2 n : Int) (w : World) (hn : NA w) (hk : kindA op = 8) (h1 : I64 rd) (h2 : I64 rs1) (h3 : I64 rs2) (h4 : I64 n) :
    Calls Tryz.prog 29 #[.agg #[.int .i64 op, .int .i64 rd, .int .i64 rs1, .int .i64 rs2, .int .i64 n]] w (OpdPost [regT rd, regT rs1] w) := by
  have HCE := Lib.hid (fun W hb => inst_cells w W op rd rs1 rs2 n hb)
  obtain ⟨W1, hW1⟩ : ∃ W1, instW w op rd rs1 rs2 n = W1 := ⟨_, rfl⟩
  have HBW := Lib.hid (below_inst w op rd rs1 rs2 n)
  have HNW := Lib.hid (hn.on (below_inst w op rd rs1 rs2 n))
  rw [hW1] at HCE HBW HNW
  have HF := Lib.hid (fmt_any n W1 HNW.out h4.1 (i64_le h4))
  have HK := Lib.hid (fun W (hW : NA W) => kind_any op W hW.nt)
  rw [kindA_eq, hk] at HK
  have HR_rd := Lib.hid (fun W (hW : NA W) => register_any rd W hW h1.1 (i64_le h1))
  have HR_rs1 := Lib.hid (fun W (hW : NA W) => register_any rs1 W hW h2.1 (i64_le h2))
  unfold instW at hW1
  clear hn hk h1 h2 h3 h4
  go_enter Tryz.func29, Tryz.ntmps29
  go_upto_region 1 with fail
  (try rw [hW1])
  clear hW1
  obtain ⟨c0, c1, c2, c3, c4⟩ := HCE.out W1 (Below.refl _ _)
  go_wp2_with (first
    | (go_at_call 69; refine HF.out.mono ?_; rintro e w2 ⟨rfl, hb⟩; have HB2 := Lib.hid hb; have HN2 := Lib.hid (HNW.out.on hb); obtain ⟨d0, d1, d2, d3, d4⟩ := HCE.out w2 hb; clear hb)
    | (go_at_call 36; refine (HK.out _ HN2.out).mono ?_; rintro e w3 ⟨rfl, hb⟩; have HN3 := Lib.hid (HN2.out.on hb); have HB3 := Lib.hid (HB2.out.trans (hb.mono HB2.out.size)); clear hb))
  clear c0 c1 c2 c3 c4 d0 d1 d2 d3 d4
  go_region_held3 (fun W => W.cell? ⟨w.heap.size, 1, none⟩ = some (.int .i64 rd) ∧ W.cell? ⟨w.heap.size, 2, none⟩ = some (.int .i64 rs1))
    (first | with_reducible exact ⟨(HCE.out _ HB3.out).2.1, (HCE.out _ HB3.out).2.2.1⟩ | with_reducible exact ⟨(HCE.out _ (Below.drew HB3.out)).2.1, (HCE.out _ (Below.drew HB3.out)).2.2.1⟩ | with_reducible exact ⟨(HCE.out _ HV0.out).2.1, (HCE.out _ HV0.out).2.2.1⟩ | with_reducible exact ⟨(HCE.out _ HV1.out).2.1, (HCE.out _ HV1.out).2.2.1⟩ | go_keep)
    (first
      | (go_at_call 70; (with_reducible refine (HR_rd.out _ (HN3.out.drew)).mono ?_); rintro e v0 ⟨rfl, hb⟩; have HV0 := Lib.hid ((Below.drew HB3.out).trans (hb.mono (Below.drew HB3.out).size)); have HM0 := Lib.hid ((HN3.out.drew).on hb); clear hb)
      | (go_at_call 70; (with_reducible refine (HR_rs1.out _ HM0.out).mono ?_); rintro e v1 ⟨rfl, hb⟩; have HV1 := Lib.hid (HV0.out.trans (hb.mono HV0.out.size)); have HM1 := Lib.hid (HM0.out.on hb); clear hb))
  all_goals go_wp2_with fail
  all_goals
    go_ret
    refine .inr ⟨_, rfl, ?_, ?_⟩
    · exact tx_new _ _ _ _ rfl
    · exact bAlloc (HBW.out.trans (HV1.out.mono HBW.out.size)) _
set_option maxRecDepth 100000 in
set_option maxHeartbeats 2000000 in
theorem opd_10 (op rd rs1 rs2 n : Int) (w : World) (hn : NA w) (hk : kindA op = 10) (h1 : I64 rd) (h2 : I64 rs1) (h3 : I64 rs2) (h4 : I64 n) :
    Calls Tryz.prog 29 #[.agg #[.int .i64 op, .int .i64 rd, .int .i64 rs1, .int .i64 rs2, .int .i64 n]] w (OpdPost [regT rs1, regT rs2] w) := by
  have HCE := Lib.hid (fun W hb => inst_cells w W op rd rs1 rs2 n hb)
  obtain ⟨W1, hW1⟩ : ∃ W1, instW w op rd rs1 rs2 n = W1 := ⟨_, rfl⟩
  have HBW := Lib.hid (below_inst w op rd rs1 rs2 n)
  have HNW := Lib.hid (hn.on (below_inst w op rd rs1 rs2 n))
  rw [hW1] at HCE HBW HNW
  have HF := Lib.hid (fmt_any n W1 HNW.out h4.1 (i64_le h4))
  have HK := Lib.hid (fun W (hW : NA W) => kind_any op W hW.nt)
  rw [kindA_eq, hk] at HK
  have HR_rs1 := Lib.hid (fun W (hW : NA W) => register_any rs1 W hW h2.1 (i64_le h2))
  have HR_rs2 := Lib.hid (fun W (hW : NA W) => register_any rs2 W hW h3.1 (i64_le h3))
  unfold instW at hW1
  clear hn hk h1 h2 h3 h4
  go_enter Tryz.func29, Tryz.ntmps29
  go_upto_region 1 with fail
  (try rw [hW1])
  clear hW1
  obtain ⟨c0, c1, c2, c3, c4⟩ := HCE.out W1 (Below.refl _ _)
  go_wp2_with (first
    | (go_at_call 69; refine HF.out.mono ?_; rintro e w2 ⟨rfl, hb⟩; have HB2 := Lib.hid hb; have HN2 := Lib.hid (HNW.out.on hb); obtain ⟨d0, d1, d2, d3, d4⟩ := HCE.out w2 hb; clear hb)
    | (go_at_call 36; refine (HK.out _ HN2.out).mono ?_; rintro e w3 ⟨rfl, hb⟩; have HN3 := Lib.hid (HN2.out.on hb); have HB3 := Lib.hid (HB2.out.trans (hb.mono HB2.out.size)); clear hb))
  clear c0 c1 c2 c3 c4 d0 d1 d2 d3 d4
  go_region_held3 (fun W => W.cell? ⟨w.heap.size, 2, none⟩ = some (.int .i64 rs1) ∧ W.cell? ⟨w.heap.size, 3, none⟩ = some (.int .i64 rs2))
    (first | with_reducible exact ⟨(HCE.out _ HB3.out).2.2.1, (HCE.out _ HB3.out).2.2.2.1⟩ | with_reducible exact ⟨(HCE.out _ (Below.drew HB3.out)).2.2.1, (HCE.out _ (Below.drew HB3.out)).2.2.2.1⟩ | with_reducible exact ⟨(HCE.out _ HV0.out).2.2.1, (HCE.out _ HV0.out).2.2.2.1⟩ | with_reducible exact ⟨(HCE.out _ HV1.out).2.2.1, (HCE.out _ HV1.out).2.2.2.1⟩ | go_keep)
    (first
      | (go_at_call 70; (with_reducible refine (HR_rs1.out _ (HN3.out.drew)).mono ?_); rintro e v0 ⟨rfl, hb⟩; have HV0 := Lib.hid ((Below.drew HB3.out).trans (hb.mono (Below.drew HB3.out).size)); have HM0 := Lib.hid ((HN3.out.drew).on hb); clear hb)
      | (go_at_call 70; (with_reducible refine (HR_rs2.out _ HM0.out).mono ?_); rintro e v1 ⟨rfl, hb⟩; have HV1 := Lib.hid (HV0.out.trans (hb.mono HV0.out.size)); have HM1 := Lib.hid (HM0.out.on hb); clear hb))
  all_goals go_wp2_with fail
  all_goals
    go_ret
    refine .inr ⟨_, rfl, ?_, ?_⟩
    · exact tx_new _ _ _ _ rfl
    · exact bAlloc (HBW.out.trans (HV1.out.mono HBW.out.size)) _
end Go.Proofs.YtdpmihlmfephiaaGreatDoor
