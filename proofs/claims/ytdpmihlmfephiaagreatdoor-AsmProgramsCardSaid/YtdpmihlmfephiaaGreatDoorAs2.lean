/- Merged: AsH AsI AsJ. -/
import Derived.Test.YtdpmihlmfephiaaGreatDoorAs1
import Derived.Test.YtdpmihlmfephiaaGreatDoorIsaJ
import Derived.Deep.AppendSrc
import Derived.Maps.AppendAt
import Derived.Deep.RegionLaw
namespace Go.Proofs.YtdpmihlmfephiaaGreatDoor
set_option linter.unusedVariables false
set_option linter.unusedSimpArgs false
open Go.Joins Go.ChangeShapes Go.WideShapes Go.ChangeAt Go.RowKit Go.Deep

theorem i64_le {n : Int} (h : I64 n) : n ≤ 9223372036854775807 := by have := h.2; omega
def OpdPost (xs : List (List UInt8)) (w : World) (e : Ending) (w' : World) : Prop :=
  (xs = [] ∧ e = .returned (.slice none 0 0) ∧ Below w.heap.size w w') ∨ ∃ B, e = .returned (.slice (some ⟨B, 0, none⟩) xs.length xs.length) ∧ TX w' B xs ∧ Below w.heap.size w w'
def instW (w : World) (op rd rs1 rs2 n : Int) : World := w.alloc (.cells #[.int .i64 op, .int .i64 rd, .int .i64 rs1, .int .i64 rs2, .int .i64 n] 23)
theorem inst_cells (w W : World) (op rd rs1 rs2 n : Int) (hb : Below (instW w op rd rs1 rs2 n).heap.size (instW w op rd rs1 rs2 n) W) :
    W.cell? ⟨w.heap.size, 0, none⟩ = some (.int .i64 op) ∧ W.cell? ⟨w.heap.size, 1, none⟩ = some (.int .i64 rd) ∧ W.cell? ⟨w.heap.size, 2, none⟩ = some (.int .i64 rs1) ∧ W.cell? ⟨w.heap.size, 3, none⟩ = some (.int .i64 rs2) ∧ W.cell? ⟨w.heap.size, 4, none⟩ = some (.int .i64 n) := by
  have hlt : w.heap.size < (instW w op rd rs1 rs2 n).heap.size := by unfold instW; simp
  have hc := fun j => hb.cell (p := ⟨w.heap.size, j, none⟩) hlt
  have h0 : ∀ j, (instW w op rd rs1 rs2 n).cell? ⟨w.heap.size, j, none⟩ = #[Value.int .i64 op, .int .i64 rd, .int .i64 rs1, .int .i64 rs2, .int .i64 n][j]? := fun j => by unfold instW; rw [World.cell?_alloc_new]
  exact ⟨(hc 0).trans (h0 0), (hc 1).trans (h0 1), (hc 2).trans (h0 2), (hc 3).trans (h0 3), (hc 4).trans (h0 4)⟩
theorem below_inst (w : World) (op rd rs1 rs2 n : Int) : Below w.heap.size w (instW w op rd rs1 rs2 n) := bAlloc (Below.refl _ _) _
theorem tx_new (W : World) (xs : List (List UInt8)) (t : TypeId) (A : Array Value) (hA : A = (xs.map strV).toArray) : TX (W.alloc (.cells A t)) W.heap.size xs := by
  subst hA
  refine ⟨by simp, fun j x hx => ?_⟩
  rw [World.cell?_alloc_new]
  simp [hx]
theorem place_add (n r : Int) (h0 : -9223372036854775808 ≤ n) (h1 : n ≤ 9223372036854775807) (h2 : -9223372036854775808 ≤ r) (h3 : r ≤ 9223372036854775807) :
    (∀ W : World, (Op.stringOp .add ⟨(Lib.itoa n).toArray⟩ ⟨#[40]⟩).run Tryz.prog W = .ok (.string ⟨(Lib.itoa n ++ [40]).toArray⟩) W) ∧
    (∀ W : World, (Op.stringOp .add ⟨(Lib.itoa n ++ [40]).toArray⟩ ⟨(regT r).toArray⟩).run Tryz.prog W = .ok (.string ⟨(Lib.itoa n ++ 40 :: regT r).toArray⟩) W) ∧
    (∀ W : World, (Op.stringOp .add ⟨(Lib.itoa n ++ 40 :: regT r).toArray⟩ ⟨#[41]⟩).run Tryz.prog W = .ok (.string ⟨(placeT n r).toArray⟩) W) := by
  have l1 := Lib.itoa_length_le n h0 h1
  have l2 := Lib.itoa_length_le r h2 h3
  have l3 : (regT r).length ≤ 22 := by unfold regT; rw [List.length_cons]; omega
  refine ⟨add_l _ [40] _ rfl (by omega) (by decide), add_l _ _ _ (by simp) (by rw [List.length_append]; simp only [List.length_cons, List.length_nil]; omega) (by omega), add_l _ [41] _ (by unfold placeT; simp) (by rw [List.length_append]; simp only [List.length_cons, List.length_nil]; omega) (by decide)⟩
set_option maxRecDepth 100000 in
set_option maxHeartbeats 2000000 in
theorem opd_1 (op rd rs1 rs2 n : Int) (w : World) (hn : NA w) (hk : kindA op = 1) (h1 : I64 rd) (h2 : I64 rs1) (h3 : I64 rs2) (h4 : I64 n) :
    Calls Tryz.prog 29 #[.agg #[.int .i64 op, .int .i64 rd, .int .i64 rs1, .int .i64 rs2, .int .i64 n]] w (OpdPost [regT rd, regT rs1, regT rs2] w) := by
  have HCE := Lib.hid (fun W hb => inst_cells w W op rd rs1 rs2 n hb)
  obtain ⟨W1, hW1⟩ : ∃ W1, instW w op rd rs1 rs2 n = W1 := ⟨_, rfl⟩
  have HBW := Lib.hid (below_inst w op rd rs1 rs2 n)
  have HNW := Lib.hid (hn.on (below_inst w op rd rs1 rs2 n))
  rw [hW1] at HCE HBW HNW
  have HF := Lib.hid (fmt_any n W1 HNW.out h4.1 (i64_le h4))
  have HK := Lib.hid (fun W (hW : NA W) => kind_any op W hW.nt)
  rw [kindA_eq, hk] at HK
  have HR_rd := Lib.hid (fun W (hW : NA W) => register_any rd W hW h1.1 (i64_le h1))
  have HR_rs1 := Lib.hid (fun W (hW : NA W) => register_any rs1 W hW h2.1 (i64_le h2))
  have HR_rs2 := Lib.hid (fun W (hW : NA W) => register_any rs2 W hW h3.1 (i64_le h3))
  unfold instW at hW1
  clear hn hk h1 h2 h3 h4
  go_enter Tryz.func29, Tryz.ntmps29
  go_upto_region 1 with fail
  (try rw [hW1])
  clear hW1
  obtain ⟨c0, c1, c2, c3, c4⟩ := HCE.out W1 (Below.refl _ _)
  go_wp2_with (first
    | (go_at_call 69; refine HF.out.mono ?_; rintro e w2 ⟨rfl, hb⟩; have HB2 := Lib.hid hb; have HN2 := Lib.hid (HNW.out.on hb); obtain ⟨d0, d1, d2, d3, d4⟩ := HCE.out w2 hb; clear hb)
    | (go_at_call 36; refine (HK.out _ HN2.out).mono ?_; rintro e w3 ⟨rfl, hb⟩; have HN3 := Lib.hid (HN2.out.on hb); have HB3 := Lib.hid (HB2.out.trans (hb.mono HB2.out.size)); clear hb))
  clear c0 c1 c2 c3 c4 d0 d1 d2 d3 d4
  go_region_held3 (fun W => W.cell? ⟨w.heap.size, 1, none⟩ = some (.int .i64 rd) ∧ W.cell? ⟨w.heap.size, 2, none⟩ = some (.int .i64 rs1) ∧ W.cell? ⟨w.heap.size, 3, none⟩ = some (.int .i64 rs2))
    (first | with_reducible exact ⟨(HCE.out _ HB3.out).2.1, (HCE.out _ HB3.out).2.2.1, (HCE.out _ HB3.out).2.2.2.1⟩ | with_reducible exact ⟨(HCE.out _ (Below.drew HB3.out)).2.1, (HCE.out _ (Below.drew HB3.out)).2.2.1, (HCE.out _ (Below.drew HB3.out)).2.2.2.1⟩ | with_reducible exact ⟨(HCE.out _ HV0.out).2.1, (HCE.out _ HV0.out).2.2.1, (HCE.out _ HV0.out).2.2.2.1⟩ | with_reducible exact ⟨(HCE.out _ HV1.out).2.1, (HCE.out _ HV1.out).2.2.1, (HCE.out _ HV1.out).2.2.2.1⟩ | with_reducible exact ⟨(HCE.out _ HV2.out).2.1, (HCE.out _ HV2.out).2.2.1, (HCE.out _ HV2.out).2.2.2.1⟩ | go_keep)
    (first
      | (go_at_call 70; (with_reducible refine (HR_rd.out _ (HN3.out.drew)).mono ?_); rintro e v0 ⟨rfl, hb⟩; have HV0 := Lib.hid ((Below.drew HB3.out).trans (hb.mono (Below.drew HB3.out).size)); have HM0 := Lib.hid ((HN3.out.drew).on hb); clear hb)
      | (go_at_call 70; (with_reducible refine (HR_rs1.out _ HM0.out).mono ?_); rintro e v1 ⟨rfl, hb⟩; have HV1 := Lib.hid (HV0.out.trans (hb.mono HV0.out.size)); have HM1 := Lib.hid (HM0.out.on hb); clear hb)
      | (go_at_call 70; (with_reducible refine (HR_rs2.out _ HM1.out).mono ?_); rintro e v2 ⟨rfl, hb⟩; have HV2 := Lib.hid (HV1.out.trans (hb.mono HV1.out.size)); have HM2 := Lib.hid (HM1.out.on hb); clear hb))
  all_goals go_wp2_with fail
  all_goals
    go_ret
    refine .inr ⟨_, rfl, ?_, ?_⟩
    · exact tx_new _ _ _ _ rfl
    · exact bAlloc (HBW.out.trans (HV2.out.mono HBW.out.size)) _
set_option maxRecDepth 100000 in
set_option maxHeartbeats 2000000 in
theorem opd_2 (op rd rs1 rs2 n : Int) (w : World) (hn : NA w) (hk : kindA op = 2) (h1 : I64 rd) (h2 : I64 rs1) (h3 : I64 rs2) (h4 : I64 n) :
    Calls Tryz.prog 29 #[.agg #[.int .i64 op, .int .i64 rd, .int .i64 rs1, .int .i64 rs2, .int .i64 n]] w (OpdPost [regT rd, regT rs1, Lib.itoa n] w) := by
  have HCE := Lib.hid (fun W hb => inst_cells w W op rd rs1 rs2 n hb)
  obtain ⟨W1, hW1⟩ : ∃ W1, instW w op rd rs1 rs2 n = W1 := ⟨_, rfl⟩
  have HBW := Lib.hid (below_inst w op rd rs1 rs2 n)
  have HNW := Lib.hid (hn.on (below_inst w op rd rs1 rs2 n))
  rw [hW1] at HCE HBW HNW
  have HF := Lib.hid (fmt_any n W1 HNW.out h4.1 (i64_le h4))
  have HK := Lib.hid (fun W (hW : NA W) => kind_any op W hW.nt)
  rw [kindA_eq, hk] at HK
  have HR_rd := Lib.hid (fun W (hW : NA W) => register_any rd W hW h1.1 (i64_le h1))
  have HR_rs1 := Lib.hid (fun W (hW : NA W) => register_any rs1 W hW h2.1 (i64_le h2))
  unfold instW at hW1
  clear hn hk h1 h2 h3 h4
  go_enter Tryz.func29, Tryz.ntmps29
  go_upto_region 1 with fail
  (try rw [hW1])
  clear hW1
  obtain ⟨c0, c1, c2, c3, c4⟩ := HCE.out W1 (Below.refl _ _)
  go_wp2_with (first
    | (go_at_call 69; refine HF.out.mono ?_; rintro e w2 ⟨rfl, hb⟩; have HB2 := Lib.hid hb; have HN2 := Lib.hid (HNW.out.on hb); obtain ⟨d0, d1, d2, d3, d4⟩ := HCE.out w2 hb; clear hb)
    | (go_at_call 36; refine (HK.out _ HN2.out).mono ?_; rintro e w3 ⟨rfl, hb⟩; have HN3 := Lib.hid (HN2.out.on hb); have HB3 := Lib.hid (HB2.out.trans (hb.mono HB2.out.size)); clear hb))
  clear c0 c1 c2 c3 c4 d0 d1 d2 d3 d4
  go_region_held3 (fun W => W.cell? ⟨w.heap.size, 1, none⟩ = some (.int .i64 rd) ∧ W.cell? ⟨w.heap.size, 2, none⟩ = some (.int .i64 rs1))
    (first | with_reducible exact ⟨(HCE.out _ HB3.out).2.1, (HCE.out _ HB3.out).2.2.1⟩ | with_reducible exact ⟨(HCE.out _ (Below.drew HB3.out)).2.1, (HCE.out _ (Below.drew HB3.out)).2.2.1⟩ | with_reducible exact ⟨(HCE.out _ HV0.out).2.1, (HCE.out _ HV0.out).2.2.1⟩ | with_reducible exact ⟨(HCE.out _ HV1.out).2.1, (HCE.out _ HV1.out).2.2.1⟩ | go_keep)
    (first
      | (go_at_call 70; (with_reducible refine (HR_rd.out _ (HN3.out.drew)).mono ?_); rintro e v0 ⟨rfl, hb⟩; have HV0 := Lib.hid ((Below.drew HB3.out).trans (hb.mono (Below.drew HB3.out).size)); have HM0 := Lib.hid ((HN3.out.drew).on hb); clear hb)
      | (go_at_call 70; (with_reducible refine (HR_rs1.out _ HM0.out).mono ?_); rintro e v1 ⟨rfl, hb⟩; have HV1 := Lib.hid (HV0.out.trans (hb.mono HV0.out.size)); have HM1 := Lib.hid (HM0.out.on hb); clear hb))
  all_goals go_wp2_with fail
  all_goals
    go_ret
    refine .inr ⟨_, rfl, ?_, ?_⟩
    · exact tx_new _ _ _ _ rfl
    · exact bAlloc (HBW.out.trans (HV1.out.mono HBW.out.size)) _
set_option maxRecDepth 100000 in
set_option maxHeartbeats 2000000 in
theorem opd_3 (op rd rs1 rs2 n : Int) (w : World) (hn : NA w) (hk : kindA op = 3) (h1 : I64 rd) (h2 : I64 rs1) (h3 : I64 rs2) (h4 : I64 n) :
    Calls Tryz.prog 29 #[.agg #[.int .i64 op, .int .i64 rd, .int .i64 rs1, .int .i64 rs2, .int .i64 n]] w (OpdPost [regT rd, placeT n rs1] w) := by
  have HCE := Lib.hid (fun W hb => inst_cells w W op rd rs1 rs2 n hb)
  obtain ⟨W1, hW1⟩ : ∃ W1, instW w op rd rs1 rs2 n = W1 := ⟨_, rfl⟩
  have HBW := Lib.hid (below_inst w op rd rs1 rs2 n)
  have HNW := Lib.hid (hn.on (below_inst w op rd rs1 rs2 n))
  rw [hW1] at HCE HBW HNW
  have HF := Lib.hid (fmt_any n W1 HNW.out h4.1 (i64_le h4))
  have HK := Lib.hid (fun W (hW : NA W) => kind_any op W hW.nt)
  rw [kindA_eq, hk] at HK
  have HR_rd := Lib.hid (fun W (hW : NA W) => register_any rd W hW h1.1 (i64_le h1))
  have HR_rs1 := Lib.hid (fun W (hW : NA W) => register_any rs1 W hW h2.1 (i64_le h2))
  obtain ⟨k1, k2, k3⟩ := place_add n rs1 h4.1 (i64_le h4) h2.1 (i64_le h2)
  unfold instW at hW1
  clear hn hk h1 h2 h3 h4
  go_enter Tryz.func29, Tryz.ntmps29
  go_upto_region 1 with fail
  (try rw [hW1])
  clear hW1
  obtain ⟨c0, c1, c2, c3, c4⟩ := HCE.out W1 (Below.refl _ _)
  go_wp2_with (first
    | (go_at_call 69; refine HF.out.mono ?_; rintro e w2 ⟨rfl, hb⟩; have HB2 := Lib.hid hb; have HN2 := Lib.hid (HNW.out.on hb); obtain ⟨d0, d1, d2, d3, d4⟩ := HCE.out w2 hb; clear hb)
    | (go_at_call 36; refine (HK.out _ HN2.out).mono ?_; rintro e w3 ⟨rfl, hb⟩; have HN3 := Lib.hid (HN2.out.on hb); have HB3 := Lib.hid (HB2.out.trans (hb.mono HB2.out.size)); clear hb))
  clear c0 c1 c2 c3 c4 d0 d1 d2 d3 d4
  go_region_held3 (fun W => W.cell? ⟨w.heap.size, 1, none⟩ = some (.int .i64 rd) ∧ W.cell? ⟨w.heap.size, 2, none⟩ = some (.int .i64 rs1))
    (first | with_reducible exact ⟨(HCE.out _ HB3.out).2.1, (HCE.out _ HB3.out).2.2.1⟩ | with_reducible exact ⟨(HCE.out _ (Below.drew HB3.out)).2.1, (HCE.out _ (Below.drew HB3.out)).2.2.1⟩ | with_reducible exact ⟨(HCE.out _ HV0.out).2.1, (HCE.out _ HV0.out).2.2.1⟩ | with_reducible exact ⟨(HCE.out _ HV1.out).2.1, (HCE.out _ HV1.out).2.2.1⟩ | go_keep)
    (first
      | (go_at_call 70; (with_reducible refine (HR_rd.out _ (HN3.out.drew)).mono ?_); rintro e v0 ⟨rfl, hb⟩; have HV0 := Lib.hid ((Below.drew HB3.out).trans (hb.mono (Below.drew HB3.out).size)); have HM0 := Lib.hid ((HN3.out.drew).on hb); clear hb)
      | (go_at_call 70; (with_reducible refine (HR_rs1.out _ HM0.out).mono ?_); rintro e v1 ⟨rfl, hb⟩; have HV1 := Lib.hid (HV0.out.trans (hb.mono HV0.out.size)); have HM1 := Lib.hid (HM0.out.on hb); clear hb))
  all_goals go_wp2_with fail
  all_goals
    go_ret
    refine .inr ⟨_, rfl, ?_, ?_⟩
    · exact tx_new _ _ _ _ rfl
    · exact bAlloc (HBW.out.trans (HV1.out.mono HBW.out.size)) _
set_option maxRecDepth 100000 in
set_option maxHeartbeats 2000000 in
theorem opd_4 (op rd rs1 rs2 n : Int) (w : World) (hn : NA w) (hk : kindA op = 4) (h1 : I64 rd) (h2 : I64 rs1) (h3 : I64 rs2) (h4 : I64 n) :
    Calls Tryz.prog 29 #[.agg #[.int .i64 op, .int .i64 rd, .int .i64 rs1, .int .i64 rs2, .int .i64 n]] w (OpdPost [regT rs2, placeT n rs1] w) := by
  have HCE := Lib.hid (fun W hb => inst_cells w W op rd rs1 rs2 n hb)
  obtain ⟨W1, hW1⟩ : ∃ W1, instW w op rd rs1 rs2 n = W1 := ⟨_, rfl⟩
  have HBW := Lib.hid (below_inst w op rd rs1 rs2 n)
  have HNW := Lib.hid (hn.on (below_inst w op rd rs1 rs2 n))
  rw [hW1] at HCE HBW HNW
  have HF := Lib.hid (fmt_any n W1 HNW.out h4.1 (i64_le h4))
  have HK := Lib.hid (fun W (hW : NA W) => kind_any op W hW.nt)
  rw [kindA_eq, hk] at HK
  have HR_rs2 := Lib.hid (fun W (hW : NA W) => register_any rs2 W hW h3.1 (i64_le h3))
  have HR_rs1 := Lib.hid (fun W (hW : NA W) => register_any rs1 W hW h2.1 (i64_le h2))
  obtain ⟨k1, k2, k3⟩ := place_add n rs1 h4.1 (i64_le h4) h2.1 (i64_le h2)
  unfold instW at hW1
  clear hn hk h1 h2 h3 h4
  go_enter Tryz.func29, Tryz.ntmps29
  go_upto_region 1 with fail
  (try rw [hW1])
  clear hW1
  obtain ⟨c0, c1, c2, c3, c4⟩ := HCE.out W1 (Below.refl _ _)
  go_wp2_with (first
    | (go_at_call 69; refine HF.out.mono ?_; rintro e w2 ⟨rfl, hb⟩; have HB2 := Lib.hid hb; have HN2 := Lib.hid (HNW.out.on hb); obtain ⟨d0, d1, d2, d3, d4⟩ := HCE.out w2 hb; clear hb)
    | (go_at_call 36; refine (HK.out _ HN2.out).mono ?_; rintro e w3 ⟨rfl, hb⟩; have HN3 := Lib.hid (HN2.out.on hb); have HB3 := Lib.hid (HB2.out.trans (hb.mono HB2.out.size)); clear hb))
  clear c0 c1 c2 c3 c4 d0 d1 d2 d3 d4
  go_region_held3 (fun W => W.cell? ⟨w.heap.size, 2, none⟩ = some (.int .i64 rs1) ∧ W.cell? ⟨w.heap.size, 3, none⟩ = some (.int .i64 rs2))
    (first | with_reducible exact ⟨(HCE.out _ HB3.out).2.2.1, (HCE.out _ HB3.out).2.2.2.1⟩ | with_reducible exact ⟨(HCE.out _ (Below.drew HB3.out)).2.2.1, (HCE.out _ (Below.drew HB3.out)).2.2.2.1⟩ | with_reducible exact ⟨(HCE.out _ HV0.out).2.2.1, (HCE.out _ HV0.out).2.2.2.1⟩ | with_reducible exact ⟨(HCE.out _ HV1.out).2.2.1, (HCE.out _ HV1.out).2.2.2.1⟩ | go_keep)
    (first
      | (go_at_call 70; (with_reducible refine (HR_rs2.out _ (HN3.out.drew)).mono ?_); rintro e v0 ⟨rfl, hb⟩; have HV0 := Lib.hid ((Below.drew HB3.out).trans (hb.mono (Below.drew HB3.out).size)); have HM0 := Lib.hid ((HN3.out.drew).on hb); clear hb)
      | (go_at_call 70; (with_reducible refine (HR_rs1.out _ HM0.out).mono ?_); rintro e v1 ⟨rfl, hb⟩; have HV1 := Lib.hid (HV0.out.trans (hb.mono HV0.out.size)); have HM1 := Lib.hid (HM0.out.on hb); clear hb))
  all_goals go_wp2_with fail
  all_goals
    go_ret
    refine .inr ⟨_, rfl, ?_, ?_⟩
    · exact tx_new _ _ _ _ rfl
    · exact bAlloc (HBW.out.trans (HV1.out.mono HBW.out.size)) _
set_option maxRecDepth 100000 in
set_option maxHeartbeats 2000000 in
theorem opd_5 (op rd rs1 rs2 n : Int) (w : World) (hn : NA w) (hk : kindA op = 5) (h1 : I64 rd) (h2 : I64 rs1) (h3 : I64 rs2) (h4 : I64 n) :
    Calls Tryz.prog 29 #[.agg #[.int .i64 op, .int .i64 rd, .int .i64 rs1, .int .i64 rs2, .int .i64 n]] w (OpdPost [regT rs1, regT rs2, Lib.itoa n] w) := by
  have HCE := Lib.hid (fun W hb => inst_cells w W op rd rs1 rs2 n hb)
  obtain ⟨W1, hW1⟩ : ∃ W1, instW w op rd rs1 rs2 n = W1 := ⟨_, rfl⟩
  have HBW := Lib.hid (below_inst w op rd rs1 rs2 n)
  have HNW := Lib.hid (hn.on (below_inst w op rd rs1 rs2 n))
  rw [hW1] at HCE HBW HNW
  have HF := Lib.hid (fmt_any n W1 HNW.out h4.1 (i64_le h4))
  have HK := Lib.hid (fun W (hW : NA W) => kind_any op W hW.nt)
  rw [kindA_eq, hk] at HK
  have HR_rs1 := Lib.hid (fun W (hW : NA W) => register_any rs1 W hW h2.1 (i64_le h2))
  have HR_rs2 := Lib.hid (fun W (hW : NA W) => register_any rs2 W hW h3.1 (i64_le h3))
  unfold instW at hW1
  clear hn hk h1 h2 h3 h4
  go_enter Tryz.func29, Tryz.ntmps29
  go_upto_region 1 with fail
  (try rw [hW1])
  clear hW1
  obtain ⟨c0, c1, c2, c3, c4⟩ := HCE.out W1 (Below.refl _ _)
  go_wp2_with (first
    | (go_at_call 69; refine HF.out.mono ?_; rintro e w2 ⟨rfl, hb⟩; have HB2 := Lib.hid hb; have HN2 := Lib.hid (HNW.out.on hb); obtain ⟨d0, d1, d2, d3, d4⟩ := HCE.out w2 hb; clear hb)
    | (go_at_call 36; refine (HK.out _ HN2.out).mono ?_; rintro e w3 ⟨rfl, hb⟩; have HN3 := Lib.hid (HN2.out.on hb); have HB3 := Lib.hid (HB2.out.trans (hb.mono HB2.out.size)); clear hb))
  clear c0 c1 c2 c3 c4 d0 d1 d2 d3 d4
  go_region_held3 (fun W => W.cell? ⟨w.heap.size, 2, none⟩ = some (.int .i64 rs1) ∧ W.cell? ⟨w.heap.size, 3, none⟩ = some (.int .i64 rs2))
    (first | with_reducible exact ⟨(HCE.out _ HB3.out).2.2.1, (HCE.out _ HB3.out).2.2.2.1⟩ | with_reducible exact ⟨(HCE.out _ (Below.drew HB3.out)).2.2.1, (HCE.out _ (Below.drew HB3.out)).2.2.2.1⟩ | with_reducible exact ⟨(HCE.out _ HV0.out).2.2.1, (HCE.out _ HV0.out).2.2.2.1⟩ | with_reducible exact ⟨(HCE.out _ HV1.out).2.2.1, (HCE.out _ HV1.out).2.2.2.1⟩ | go_keep)
    (first
      | (go_at_call 70; (with_reducible refine (HR_rs1.out _ (HN3.out.drew)).mono ?_); rintro e v0 ⟨rfl, hb⟩; have HV0 := Lib.hid ((Below.drew HB3.out).trans (hb.mono (Below.drew HB3.out).size)); have HM0 := Lib.hid ((HN3.out.drew).on hb); clear hb)
      | (go_at_call 70; (with_reducible refine (HR_rs2.out _ HM0.out).mono ?_); rintro e v1 ⟨rfl, hb⟩; have HV1 := Lib.hid (HV0.out.trans (hb.mono HV0.out.size)); have HM1 := Lib.hid (HM0.out.on hb); clear hb))
  all_goals go_wp2_with fail
  all_goals
    go_ret
    refine .inr ⟨_, rfl, ?_, ?_⟩
    · exact tx_new _ _ _ _ rfl
    · exact bAlloc (HBW.out.trans (HV1.out.mono HBW.out.size)) _
set_option maxRecDepth 100000 in
set_option maxHeartbeats 2000000 in
theorem opd_6 (op rd rs1 rs2 n : Int) (w : World) (hn : NA w) (hk : kindA op = 6) (h1 : I64 rd) (h2 : I64 rs1) (h3 : I64 rs2) (h4 : I64 n) :
    Calls Tryz.prog 29 #[.agg #[.int .i64 op, .int .i64 rd, .int .i64 rs1, .int .i64 rs2, .int .i64 n]] w (OpdPost [regT rd, Lib.itoa n] w) := by
  have HCE := Lib.hid (fun W hb => inst_cells w W op rd rs1 rs2 n hb)
  obtain ⟨W1, hW1⟩ : ∃ W1, instW w op rd rs1 rs2 n = W1 := ⟨_, rfl⟩
  have HBW := Lib.hid (below_inst w op rd rs1 rs2 n)
  have HNW := Lib.hid (hn.on (below_inst w op rd rs1 rs2 n))
  rw [hW1] at HCE HBW HNW
  have HF := Lib.hid (fmt_any n W1 HNW.out h4.1 (i64_le h4))
  have HK := Lib.hid (fun W (hW : NA W) => kind_any op W hW.nt)
  rw [kindA_eq, hk] at HK
  have HR_rd := Lib.hid (fun W (hW : NA W) => register_any rd W hW h1.1 (i64_le h1))
  unfold instW at hW1
  clear hn hk h1 h2 h3 h4
  go_enter Tryz.func29, Tryz.ntmps29
  go_upto_region 1 with fail
  (try rw [hW1])
  clear hW1
  obtain ⟨c0, c1, c2, c3, c4⟩ := HCE.out W1 (Below.refl _ _)
  go_wp2_with (first
    | (go_at_call 69; refine HF.out.mono ?_; rintro e w2 ⟨rfl, hb⟩; have HB2 := Lib.hid hb; have HN2 := Lib.hid (HNW.out.on hb); obtain ⟨d0, d1, d2, d3, d4⟩ := HCE.out w2 hb; clear hb)
    | (go_at_call 36; refine (HK.out _ HN2.out).mono ?_; rintro e w3 ⟨rfl, hb⟩; have HN3 := Lib.hid (HN2.out.on hb); have HB3 := Lib.hid (HB2.out.trans (hb.mono HB2.out.size)); obtain ⟨g0, g1, g2, g3, g4⟩ := HCE.out w3 (HB2.out.trans (hb.mono HB2.out.size)); clear hb)
    | (go_at_call 70; refine (HR_rd.out _ HN3.out).mono ?_; rintro e v0 ⟨rfl, hb⟩; have HV0 := Lib.hid (HB3.out.trans (hb.mono HB3.out.size)); clear hb))
  clear c0 c1 c2 c3 c4 d0 d1 d2 d3 d4
  all_goals go_wp2_with fail
  all_goals
    go_ret
    refine .inr ⟨_, rfl, ?_, ?_⟩
    · exact tx_new _ _ _ _ rfl
    · exact bAlloc (HBW.out.trans (HV0.out.mono HBW.out.size)) _
set_option maxRecDepth 100000 in
set_option maxHeartbeats 2000000 in
theorem opd_7 (op rd rs1 rs2 n : Int) (w : World) (hn : NA w) (hk : kindA op = 7) (h1 : I64 rd) (h2 : I64 rs1) (h3 : I64 rs2) (h4 : I64 n) :
    Calls Tryz.prog 29 #[.agg #[.int .i64 op, .int .i64 rd, .int .i64 rs1, .int .i64 rs2, .int .i64 n]] w (OpdPost [regT rd, Lib.itoa n] w) := by
  have HCE := Lib.hid (fun W hb => inst_cells w W op rd rs1 rs2 n hb)
  obtain ⟨W1, hW1⟩ : ∃ W1, instW w op rd rs1 rs2 n = W1 := ⟨_, rfl⟩
  have HBW := Lib.hid (below_inst w op rd rs1 rs2 n)
  have HNW := Lib.hid (hn.on (below_inst w op rd rs1 rs2 n))
  rw [hW1] at HCE HBW HNW
  have HF := Lib.hid (fmt_any n W1 HNW.out h4.1 (i64_le h4))
  have HK := Lib.hid (fun W (hW : NA W) => kind_any op W hW.nt)
  rw [kindA_eq, hk] at HK
  have HR_rd := Lib.hid (fun W (hW : NA W) => register_any rd W hW h1.1 (i64_le h1))
  unfold instW at hW1
  clear hn hk h1 h2 h3 h4
  go_enter Tryz.func29, Tryz.ntmps29
  go_upto_region 1 with fail
  (try rw [hW1])
  clear hW1
  obtain ⟨c0, c1, c2, c3, c4⟩ := HCE.out W1 (Below.refl _ _)
  go_wp2_with (first
    | (go_at_call 69; refine HF.out.mono ?_; rintro e w2 ⟨rfl, hb⟩; have HB2 := Lib.hid hb; have HN2 := Lib.hid (HNW.out.on hb); obtain ⟨d0, d1, d2, d3, d4⟩ := HCE.out w2 hb; clear hb)
    | (go_at_call 36; refine (HK.out _ HN2.out).mono ?_; rintro e w3 ⟨rfl, hb⟩; have HN3 := Lib.hid (HN2.out.on hb); have HB3 := Lib.hid (HB2.out.trans (hb.mono HB2.out.size)); obtain ⟨g0, g1, g2, g3, g4⟩ := HCE.out w3 (HB2.out.trans (hb.mono HB2.out.size)); clear hb)
    | (go_at_call 70; refine (HR_rd.out _ HN3.out).mono ?_; rintro e v0 ⟨rfl, hb⟩; have HV0 := Lib.hid (HB3.out.trans (hb.mono HB3.out.size)); clear hb))
  clear c0 c1 c2 c3 c4 d0 d1 d2 d3 d4
  all_goals go_wp2_with fail
  all_goals
    go_ret
    refine .inr ⟨_, rfl, ?_, ?_⟩
    · exact tx_new _ _ _ _ rfl
    · exact bAlloc (HBW.out.trans (HV0.out.mono HBW.out.size)) _
set_option maxRecDepth 100000 in
set_option maxHeartbeats 2000000 in
theorem opd_8 (op rd rs1 rs2 n : Int) (w : World) (hn : NA w) (hk : kindA op = 8) (h1 : I64 rd) (h2 : I64 rs1) (h3 : I64 rs2) (h4 : I64 n) :
    Calls Tryz.prog 29 #[.agg #[.int .i64 op, .int .i64 rd, .int .i64 rs1, .int .i64 rs2, .int .i64 n]] w (OpdPost [regT rd, regT rs1] w) := by
  have HCE := Lib.hid (fun W hb => inst_cells w W op rd rs1 rs2 n hb)
  obtain ⟨W1, hW1⟩ : ∃ W1, instW w op rd rs1 rs2 n = W1 := ⟨_, rfl⟩
  have HBW := Lib.hid (below_inst w op rd rs1 rs2 n)
  have HNW := Lib.hid (hn.on (below_inst w op rd rs1 rs2 n))
  rw [hW1] at HCE HBW HNW
  have HF := Lib.hid (fmt_any n W1 HNW.out h4.1 (i64_le h4))
  have HK := Lib.hid (fun W (hW : NA W) => kind_any op W hW.nt)
  rw [kindA_eq, hk] at HK
  have HR_rd := Lib.hid (fun W (hW : NA W) => register_any rd W hW h1.1 (i64_le h1))
  have HR_rs1 := Lib.hid (fun W (hW : NA W) => register_any rs1 W hW h2.1 (i64_le h2))
  unfold instW at hW1
  clear hn hk h1 h2 h3 h4
  go_enter Tryz.func29, Tryz.ntmps29
  go_upto_region 1 with fail
  (try rw [hW1])
  clear hW1
  obtain ⟨c0, c1, c2, c3, c4⟩ := HCE.out W1 (Below.refl _ _)
  go_wp2_with (first
    | (go_at_call 69; refine HF.out.mono ?_; rintro e w2 ⟨rfl, hb⟩; have HB2 := Lib.hid hb; have HN2 := Lib.hid (HNW.out.on hb); obtain ⟨d0, d1, d2, d3, d4⟩ := HCE.out w2 hb; clear hb)
    | (go_at_call 36; refine (HK.out _ HN2.out).mono ?_; rintro e w3 ⟨rfl, hb⟩; have HN3 := Lib.hid (HN2.out.on hb); have HB3 := Lib.hid (HB2.out.trans (hb.mono HB2.out.size)); clear hb))
  clear c0 c1 c2 c3 c4 d0 d1 d2 d3 d4
  go_region_held3 (fun W => W.cell? ⟨w.heap.size, 1, none⟩ = some (.int .i64 rd) ∧ W.cell? ⟨w.heap.size, 2, none⟩ = some (.int .i64 rs1))
    (first | with_reducible exact ⟨(HCE.out _ HB3.out).2.1, (HCE.out _ HB3.out).2.2.1⟩ | with_reducible exact ⟨(HCE.out _ (Below.drew HB3.out)).2.1, (HCE.out _ (Below.drew HB3.out)).2.2.1⟩ | with_reducible exact ⟨(HCE.out _ HV0.out).2.1, (HCE.out _ HV0.out).2.2.1⟩ | with_reducible exact ⟨(HCE.out _ HV1.out).2.1, (HCE.out _ HV1.out).2.2.1⟩ | go_keep)
    (first
      | (go_at_call 70; (with_reducible refine (HR_rd.out _ (HN3.out.drew)).mono ?_); rintro e v0 ⟨rfl, hb⟩; have HV0 := Lib.hid ((Below.drew HB3.out).trans (hb.mono (Below.drew HB3.out).size)); have HM0 := Lib.hid ((HN3.out.drew).on hb); clear hb)
      | (go_at_call 70; (with_reducible refine (HR_rs1.out _ HM0.out).mono ?_); rintro e v1 ⟨rfl, hb⟩; have HV1 := Lib.hid (HV0.out.trans (hb.mono HV0.out.size)); have HM1 := Lib.hid (HM0.out.on hb); clear hb))
  all_goals go_wp2_with fail
  all_goals
    go_ret
    refine .inr ⟨_, rfl, ?_, ?_⟩
    · exact tx_new _ _ _ _ rfl
    · exact bAlloc (HBW.out.trans (HV1.out.mono HBW.out.size)) _
set_option maxRecDepth 100000 in
set_option maxHeartbeats 2000000 in
theorem opd_10 (op rd rs1 rs2 n : Int) (w : World) (hn : NA w) (hk : kindA op = 10) (h1 : I64 rd) (h2 : I64 rs1) (h3 : I64 rs2) (h4 : I64 n) :
    Calls Tryz.prog 29 #[.agg #[.int .i64 op, .int .i64 rd, .int .i64 rs1, .int .i64 rs2, .int .i64 n]] w (OpdPost [regT rs1, regT rs2] w) := by
  have HCE := Lib.hid (fun W hb => inst_cells w W op rd rs1 rs2 n hb)
  obtain ⟨W1, hW1⟩ : ∃ W1, instW w op rd rs1 rs2 n = W1 := ⟨_, rfl⟩
  have HBW := Lib.hid (below_inst w op rd rs1 rs2 n)
  have HNW := Lib.hid (hn.on (below_inst w op rd rs1 rs2 n))
  rw [hW1] at HCE HBW HNW
  have HF := Lib.hid (fmt_any n W1 HNW.out h4.1 (i64_le h4))
  have HK := Lib.hid (fun W (hW : NA W) => kind_any op W hW.nt)
  rw [kindA_eq, hk] at HK
  have HR_rs1 := Lib.hid (fun W (hW : NA W) => register_any rs1 W hW h2.1 (i64_le h2))
  have HR_rs2 := Lib.hid (fun W (hW : NA W) => register_any rs2 W hW h3.1 (i64_le h3))
  unfold instW at hW1
  clear hn hk h1 h2 h3 h4
  go_enter Tryz.func29, Tryz.ntmps29
  go_upto_region 1 with fail
  (try rw [hW1])
  clear hW1
  obtain ⟨c0, c1, c2, c3, c4⟩ := HCE.out W1 (Below.refl _ _)
  go_wp2_with (first
    | (go_at_call 69; refine HF.out.mono ?_; rintro e w2 ⟨rfl, hb⟩; have HB2 := Lib.hid hb; have HN2 := Lib.hid (HNW.out.on hb); obtain ⟨d0, d1, d2, d3, d4⟩ := HCE.out w2 hb; clear hb)
    | (go_at_call 36; refine (HK.out _ HN2.out).mono ?_; rintro e w3 ⟨rfl, hb⟩; have HN3 := Lib.hid (HN2.out.on hb); have HB3 := Lib.hid (HB2.out.trans (hb.mono HB2.out.size)); clear hb))
  clear c0 c1 c2 c3 c4 d0 d1 d2 d3 d4
  go_region_held3 (fun W => W.cell? ⟨w.heap.size, 2, none⟩ = some (.int .i64 rs1) ∧ W.cell? ⟨w.heap.size, 3, none⟩ = some (.int .i64 rs2))
    (first | with_reducible exact ⟨(HCE.out _ HB3.out).2.2.1, (HCE.out _ HB3.out).2.2.2.1⟩ | with_reducible exact ⟨(HCE.out _ (Below.drew HB3.out)).2.2.1, (HCE.out _ (Below.drew HB3.out)).2.2.2.1⟩ | with_reducible exact ⟨(HCE.out _ HV0.out).2.2.1, (HCE.out _ HV0.out).2.2.2.1⟩ | with_reducible exact ⟨(HCE.out _ HV1.out).2.2.1, (HCE.out _ HV1.out).2.2.2.1⟩ | go_keep)
    (first
      | (go_at_call 70; (with_reducible refine (HR_rs1.out _ (HN3.out.drew)).mono ?_); rintro e v0 ⟨rfl, hb⟩; have HV0 := Lib.hid ((Below.drew HB3.out).trans (hb.mono (Below.drew HB3.out).size)); have HM0 := Lib.hid ((HN3.out.drew).on hb); clear hb)
      | (go_at_call 70; (with_reducible refine (HR_rs2.out _ HM0.out).mono ?_); rintro e v1 ⟨rfl, hb⟩; have HV1 := Lib.hid (HV0.out.trans (hb.mono HV0.out.size)); have HM1 := Lib.hid (HM0.out.on hb); clear hb))
  all_goals go_wp2_with fail
  all_goals
    go_ret
    refine .inr ⟨_, rfl, ?_, ?_⟩
    · exact tx_new _ _ _ _ rfl
    · exact bAlloc (HBW.out.trans (HV1.out.mono HBW.out.size)) _
end Go.Proofs.YtdpmihlmfephiaaGreatDoor

namespace Go.Proofs.YtdpmihlmfephiaaGreatDoor
set_option linter.unusedVariables false
set_option linter.unusedSimpArgs false
open Go.Joins Go.ChangeShapes Go.WideShapes Go.ChangeAt Go.RowKit Go.Deep

set_option maxRecDepth 100000 in
theorem opd_9 (op rd rs1 rs2 n : Int) (w : World) (hn : NA w) (hk : kindA op = 9) (h4 : I64 n) :
    Calls Tryz.prog 29 #[.agg #[.int .i64 op, .int .i64 rd, .int .i64 rs1, .int .i64 rs2, .int .i64 n]] w (OpdPost [] w) := by
  have HCE := Lib.hid (fun W hb => inst_cells w W op rd rs1 rs2 n hb)
  obtain ⟨W1, hW1⟩ : ∃ W1, instW w op rd rs1 rs2 n = W1 := ⟨_, rfl⟩
  have HBW := Lib.hid (below_inst w op rd rs1 rs2 n)
  have HNW := Lib.hid (hn.on (below_inst w op rd rs1 rs2 n))
  rw [hW1] at HCE HBW HNW
  have HF := Lib.hid (fmt_any n W1 HNW.out h4.1 (i64_le h4))
  have HK := Lib.hid (fun W (hW : NA W) => kind_any op W hW.nt)
  rw [kindA_eq, hk] at HK
  unfold instW at hW1
  clear hn hk h4
  go_enter Tryz.func29, Tryz.ntmps29
  go_upto_region 1 with fail
  (try rw [hW1])
  clear hW1
  obtain ⟨c0, c1, c2, c3, c4⟩ := HCE.out W1 (Below.refl _ _)
  go_wp2_with (first
    | (go_at_call 69; refine HF.out.mono ?_; rintro e w2 ⟨rfl, hb⟩; have HB2 := Lib.hid hb; have HN2 := Lib.hid (HNW.out.on hb); obtain ⟨d0, d1, d2, d3, d4⟩ := HCE.out w2 hb; clear hb)
    | (go_at_call 36; refine (HK.out _ HN2.out).mono ?_; rintro e w3 ⟨rfl, hb⟩; have HB3 := Lib.hid (HB2.out.trans (hb.mono HB2.out.size)); clear hb))
  all_goals go_wp2_with fail
  all_goals
    go_ret
    exact .inl ⟨rfl, rfl, HBW.out.trans (HB3.out.mono HBW.out.size)⟩
theorem opd_any (op : Int) (x : Ins) (w : World) (hn : NA w) (hk : okI op x = true) :
    Calls Tryz.prog 29 #[.agg #[.int .i64 op, .int .i64 x.rd, .int .i64 x.rs1, .int .i64 x.rs2, .int .i64 x.n]] w (OpdPost (opdF (kindA op) x.rd x.rs1 x.rs2 x.n) w) := by
  obtain ⟨g1, g2, g3, g4⟩ := okI_parts hk
  obtain ⟨f1, f2, f3⟩ := regsB_fit g3
  obtain ⟨a1, a2, -⟩ := fitB_in f1
  obtain ⟨b1, b2, -⟩ := fitB_in f2
  obtain ⟨c1, c2, -⟩ := fitB_in f3
  obtain ⟨i1, i2⟩ := immB_in g4
  have h1 : I64 x.rd := ⟨by omega, by omega⟩
  have h2 : I64 x.rs1 := ⟨by omega, by omega⟩
  have h3 : I64 x.rs2 := ⟨by omega, by omega⟩
  have h4 : I64 x.n := ⟨by omega, by omega⟩
  have hkk : kindA op = kindZ (bareN op) := if_pos ⟨g1, g2⟩
  have hc := kinds_op op g1 g2
  rw [← hkk] at hc
  rcases hc with h | h | h | h | h | h | h | h | h | h
  · have := opd_1 op x.rd x.rs1 x.rs2 x.n w hn h h1 h2 h3 h4; rw [h]; exact this
  · have := opd_2 op x.rd x.rs1 x.rs2 x.n w hn h h1 h2 h3 h4; rw [h]; exact this
  · have := opd_3 op x.rd x.rs1 x.rs2 x.n w hn h h1 h2 h3 h4; rw [h]; exact this
  · have := opd_4 op x.rd x.rs1 x.rs2 x.n w hn h h1 h2 h3 h4; rw [h]; exact this
  · have := opd_5 op x.rd x.rs1 x.rs2 x.n w hn h h1 h2 h3 h4; rw [h]; exact this
  · have := opd_6 op x.rd x.rs1 x.rs2 x.n w hn h h1 h2 h3 h4; rw [h]; exact this
  · have := opd_7 op x.rd x.rs1 x.rs2 x.n w hn h h1 h2 h3 h4; rw [h]; exact this
  · have := opd_8 op x.rd x.rs1 x.rs2 x.n w hn h h1 h2 h3 h4; rw [h]; exact this
  · have := opd_9 op x.rd x.rs1 x.rs2 x.n w hn h h4; rw [h]; exact this
  · have := opd_10 op x.rd x.rs1 x.rs2 x.n w hn h h1 h2 h3 h4; rw [h]; exact this
/-! Lengths. -/
theorem opN_len : ((List.range 82).all fun k => decide ((opN ((k : Int) + 1)).length ≤ 20)) = true := by decide +kernel
theorem opN_le (op : Int) (h1 : 1 ≤ op) (h2 : op ≤ 82) : (opN op).length ≤ 20 := by
  have h := List.all_eq_true.1 opN_len (op.toNat - 1) (List.mem_range.2 (by omega))
  rw [show (((op.toNat - 1 : Nat) : Int) + 1) = op by omega] at h
  simpa using h
theorem itoa_le {n : Int} (h0 : -2147483648 ≤ n) (h1 : n < 2147483648) : (Lib.itoa n).length ≤ 21 := Lib.itoa_length_le n (by omega) (by omega)
theorem regT_le {n : Int} (h0 : 0 ≤ n) (h1 : n < 32) : (regT n).length ≤ 22 := by unfold regT; rw [List.length_cons]; have := itoa_le (n := n) (by omega) (by omega); omega
theorem opdF_le (op : Int) (x : Ins) (hk : okI op x = true) (k : Int) : (opdF k x.rd x.rs1 x.rs2 x.n).length ≤ 3 ∧ ∀ y ∈ opdF k x.rd x.rs1 x.rs2 x.n, y.length ≤ 50 := by
  obtain ⟨g1, g2, g3, g4⟩ := okI_parts hk
  obtain ⟨f1, f2, f3⟩ := regsB_fit g3
  obtain ⟨a1, a2, -⟩ := fitB_in f1
  obtain ⟨b1, b2, -⟩ := fitB_in f2
  obtain ⟨c1, c2, -⟩ := fitB_in f3
  obtain ⟨i1, i2⟩ := immB_in g4
  have e1 := regT_le a1 a2
  have e2 := regT_le b1 b2
  have e3 := regT_le c1 c2
  have e4 := itoa_le i1 i2
  have e5 : (placeT x.n x.rs1).length ≤ 50 := by unfold placeT; simp; omega
  unfold opdF
  repeat' split
  all_goals
    refine ⟨by simp, fun y hy => ?_⟩
    (simp only [List.mem_cons, List.not_mem_nil, or_false] at hy) <;> first
      | (rcases hy with rfl | rfl | rfl <;> omega)
      | (rcases hy with rfl | rfl <;> omega)
theorem lens_le (B : Nat) : ∀ l : List (List UInt8), (∀ y ∈ l, y.length ≤ B) → Lib.lens l ≤ B * l.length
  | [], _ => by simp [Lib.lens]
  | x :: l, h => by
    have h1 := h x (by simp)
    have h2 := lens_le B l (fun y hy => h y (List.mem_cons_of_mem _ hy))
    simp only [Lib.lens, List.map_cons, List.sum_cons, List.length_cons] at h2 ⊢
    rw [Nat.mul_add]
    omega
theorem join_le (op : Int) (x : Ins) (hk : okI op x = true) (k : Int) : (Lib.join (opdF k x.rd x.rs1 x.rs2 x.n) sepT).length ≤ 300 := by
  obtain ⟨h1, h2⟩ := opdF_le op x hk k
  cases hl : opdF k x.rd x.rs1 x.rs2 x.n with
  | nil => simp [Lib.join_nil]
  | cons y l =>
    rw [hl] at h1 h2
    rw [Lib.join_length]
    have := lens_le 50 (y :: l) h2
    simp only [List.length_cons] at h1 this
    have h3 : sepT.length = 2 := rfl
    rw [h3]
    omega
theorem textF_le (op : Int) (x : Ins) (hk : okI op x = true) : (textF op x.rd x.rs1 x.rs2 x.n).length ≤ 400 := by
  obtain ⟨g1, g2, -⟩ := okI_parts hk
  have h1 := opN_le op g1 g2
  have h2 := join_le op x hk (kindA op)
  unfold textF tailT
  split <;> (simp only [List.length_append, List.length_cons, List.length_nil]; omega)
def priT (op : Int) (x : Ins) : List UInt8 := if okI op x = true then textF op x.rd x.rs1 x.rs2 x.n else []
def priE (op : Int) (x : Ins) : Int := if okI op x = true then 0 else 1
theorem right_ok (op : Int) (x : Ins) : rightB op x.rd x.rs1 x.rs2 x.n = okI op x := rfl
set_option maxRecDepth 100000 in
set_option maxHeartbeats 1000000 in
theorem print_any (op : Int) (x : Ins) (w : World) (hn : NA w) (hi : I64 x.n) :
    Calls Tryz.prog 13 #[.agg #[.int .i64 op, .int .i64 x.rd, .int .i64 x.rs1, .int .i64 x.rs2, .int .i64 x.n]] w fun e w' => e = .returned (.tuple #[.string ⟨(priT op x).toArray⟩, .int .i64 (priE op x)]) ∧ Below w.heap.size w w' := by
  have HCE := Lib.hid (fun W hb => inst_cells w W op x.rd x.rs1 x.rs2 x.n hb)
  obtain ⟨W1, hW1⟩ : ∃ W1, instW w op x.rd x.rs1 x.rs2 x.n = W1 := ⟨_, rfl⟩
  have HBW := Lib.hid (below_inst w op x.rd x.rs1 x.rs2 x.n)
  have HNW := Lib.hid (hn.on (below_inst w op x.rd x.rs1 x.rs2 x.n))
  rw [hW1] at HCE HBW HNW
  have HE := Lib.hid (encode_any op x.rd x.rs1 x.rs2 x.n W1 HNW.out.nt hi)
  unfold encE at HE
  rw [right_ok] at HE
  unfold instV at HE
  unfold priT priE
  unfold instW at hW1
  cases hk : okI op x with
  | false =>
    rw [hk, if_neg (by decide)] at HE
    rw [if_neg (by decide), if_neg (by decide)]
    clear hn hi hk
    obtain ⟨rd, rs1, rs2, n⟩ := x
    go_enter Tryz.func13, Tryz.ntmps13
    go_upto_region 1 with fail
    (try rw [hW1])
    clear hW1
    obtain ⟨c0, c1, c2, c3, c4⟩ := HCE.out W1 (Below.refl _ _)
    go_wp2_with (go_at_call 27; refine HE.out.mono ?_; rintro e w2 ⟨rfl, hb⟩; have HB2 := Lib.hid hb; clear hb)
    go_ret2
    exact ⟨rfl, HBW.out.trans (HB2.out.mono HBW.out.size)⟩
  | true =>
    rw [hk, if_pos rfl] at HE
    rw [if_pos rfl, if_pos rfl]
    obtain ⟨g1, g2, -⟩ := okI_parts hk
    have HNM := Lib.hid (fun W (hW : NA W) => name_any op W hW.nt)
    have HO := Lib.hid (fun W (hW : NA W) => opd_any op x W hW hk)
    have hlj := join_le op x hk (kindA op)
    have hln := opN_le op g1 g2
    have hl3 := (opdF_le op x hk (kindA op)).1
    unfold textF tailT
    obtain ⟨xs, hxs⟩ : ∃ xs, opdF (kindA op) x.rd x.rs1 x.rs2 x.n = xs := ⟨_, rfl⟩
    rw [hxs] at HO hlj hl3 ⊢
    by_cases hx0 : xs = []
    · subst hx0
      rw [if_pos rfl, List.append_nil]
      clear hn hi hk hxs hlj hln hl3 g1 g2
      obtain ⟨rd, rs1, rs2, n⟩ := x
      go_enter Tryz.func13, Tryz.ntmps13
      go_upto_region 1 with fail
      (try rw [hW1])
      clear hW1
      obtain ⟨c0, c1, c2, c3, c4⟩ := HCE.out W1 (Below.refl _ _)
      go_wp2_with (first
        | (go_at_call 27; refine HE.out.mono ?_; rintro e w2 ⟨rfl, hb⟩; have HB2 := Lib.hid hb; have HN2 := Lib.hid (HNW.out.on hb); obtain ⟨d0, d1, d2, d3, d4⟩ := HCE.out w2 hb; clear hb)
        | (go_at_call 28; refine (HNM.out _ HN2.out).mono ?_; rintro e w3 ⟨rfl, rfl⟩))
      refine (HO.out _ HN2.out).mono ?_
      rintro e w4 (⟨-, rfl, hb⟩ | ⟨B, rfl, hT, hb⟩)
      all_goals
        have HB4 := Lib.hid (HB2.out.trans (hb.mono HB2.out.size))
        clear hb c0 c1 c2 c3 c4 d0 d1 d2 d3 d4
        (try simp only [List.length_nil])
        go_wp2_with fail
        go_ret2
        exact ⟨rfl, HBW.out.trans (HB4.out.mono HBW.out.size)⟩
    · rw [if_neg hx0]
      have HJ := Lib.hid (fun B W (hT : TX W B xs) => join_any B xs sepT W xs.length hT.cell hT.lt (by omega) (Nat.le_refl _) (by omega))
      have k1 := add_l [32] (Lib.join xs sepT) (32 :: Lib.join xs sepT) rfl (by decide) (by omega)
      have k2 := add_l (opN op) (32 :: Lib.join xs sepT) (opN op ++ 32 :: Lib.join xs sepT) rfl (by omega) (by rw [List.length_cons]; omega)
      have h0 : 0 < xs.length := List.length_pos_iff.2 hx0
      obtain ⟨m, hm⟩ : ∃ m, xs.length = m := ⟨_, rfl⟩
      have HM := Lib.hid hm
      have HX0 := Lib.hid hx0
      rw [hm] at HJ h0
      have hd : decide (0 < m) = true := decide_eq_true h0
      clear hn hi hk hxs hlj hln hl3 hm g1 g2 hx0
      obtain ⟨rd, rs1, rs2, n⟩ := x
      go_enter Tryz.func13, Tryz.ntmps13
      go_upto_region 1 with fail
      (try rw [hW1])
      clear hW1
      obtain ⟨c0, c1, c2, c3, c4⟩ := HCE.out W1 (Below.refl _ _)
      go_wp2_with (first
        | (go_at_call 27; refine HE.out.mono ?_; rintro e w2 ⟨rfl, hb⟩; have HB2 := Lib.hid hb; have HN2 := Lib.hid (HNW.out.on hb); obtain ⟨d0, d1, d2, d3, d4⟩ := HCE.out w2 hb; clear hb)
        | (go_at_call 28; refine (HNM.out _ HN2.out).mono ?_; rintro e w3 ⟨rfl, rfl⟩))
      refine (HO.out _ HN2.out).mono ?_
      rintro e w4 (⟨hx, rfl, hb⟩ | ⟨B, rfl, hT, hb⟩)
      · exact absurd hx HX0.out
      · have HB4 := Lib.hid (HB2.out.trans (hb.mono HB2.out.size))
        have HT := Lib.hid hT
        rw [HM.out]
        clear hb hT c0 c1 c2 c3 c4 d0 d1 d2 d3 d4
        go_wp2_with (go_at_call 30; refine (HJ.out _ _ HT.out).mono ?_; rintro e w5 ⟨rfl, hb⟩; have HB5 := Lib.hid (HB4.out.trans (hb.mono HB4.out.size)); clear hb)
        go_ret2
        exact ⟨rfl, HBW.out.trans (HB5.out.mono HBW.out.size)⟩
end Go.Proofs.YtdpmihlmfephiaaGreatDoor

namespace Go.Proofs.YtdpmihlmfephiaaGreatDoor
set_option linter.unusedVariables false
set_option linter.unusedSimpArgs false
open Go.Joins Go.ChangeShapes Go.WideShapes Go.ChangeAt Go.RowKit Go.Deep

theorem infoStr : (Tryz.prog.info? 9).map (fun i => (i.zero, i.size, i.bytes)) = some (some (.string ⟨#[]⟩), 1, 16) := by kernel_rfl
/-- texts behind others, in a new row: there is no room -/
theorem app_texts (W : World) (ty : TypeId) (B C m : Nat) (ys zs : List (List UInt8)) (hy : ys.length = m) (hz : zs.length = 2) (hB : TX W B ys) (hC : TX W C zs) (hm : m ≤ 1000000) :
    ∃ cap W', (Builtin.append_ #[47, 47] ty #[.slice (some ⟨B, 0, none⟩) m (m + 1), .slice (some ⟨C, 0, none⟩) 2 2]).run Tryz.prog W = .ok (.slice (some ⟨W.heap.size, 0, none⟩) (m + 2) cap) W' ∧ TX W' W.heap.size (ys ++ zs) ∧ Below W.heap.size W W' := by
  obtain ⟨i0, hi, hz0, hz1, hz2⟩ := info_parts infoStr
  have hb : Builtin.nextslicecap (m + 2) (m + 1) * i0.bytes ≤ 281474976710656 := by
    rw [hz2]; exact growslice_fits (by omega) (by omega)
  have hrun := run_append_grow_src (P := Tryz.prog) (w := W) 47 47 ty 9 i0 _ Tryz.underlying47 hi hz0 (some ⟨B, 0, none⟩) m (m + 1) (ys.map strV)
    (by rw [hz1]; exact run_firstCells_some W.drew 1 m ⟨B, 0, none⟩ m (m + 1) (ys.map strV) (by simp [hy]) (fun j u hj => by
      rw [List.getElem?_map] at hj
      cases hq : ys[j]? with
      | none => rw [hq] at hj; cases hj
      | some y =>
        rw [hq] at hj
        obtain rfl := Option.some.inj hj
        rw [add_plain]
        simpa using hB.cell j y hq)) (.slice (some ⟨C, 0, none⟩) 2 2) 2 (zs.map strV)
    (by rw [hz1]; exact Src.ofSlice W Tryz.underlying47 ⟨C, 0, none⟩ 2 2 (zs.map strV) (by simp [hz]) (fun j u hj => by
      rw [List.getElem?_map] at hj
      cases hq : zs[j]? with
      | none => rw [hq] at hj; cases hj
      | some y =>
        rw [hq] at hj
        obtain rfl := Option.some.inj hj
        rw [add_plain]
        simpa using hC.cell j y hq) (fun u hu => by
      obtain ⟨y, -, rfl⟩ := List.mem_map.1 hu
      rfl)) (by omega) (by omega) hb
  refine ⟨_, _, hrun, ⟨by simp, fun j x hx => ?_⟩, bAlloc (Below.drew (Below.refl _ _)) _⟩
  have : (W.drew.alloc (.cells ((ys.map strV ++ zs.map strV).toArray ++ Builtin.zeroCells (Value.cells (Value.string ⟨#[]⟩)) (grownCap W (m + 2) (m + 1) 9 - (m + 2))) 9)).cell? ⟨W.drew.heap.size, j, none⟩ = some (strV x) := by
    rw [World.cell?_alloc_new]
    have hj : j < (ys.map strV ++ zs.map strV).toArray.size := by
      have := (List.getElem?_eq_some_iff.1 hx).1
      simpa using this
    rw [Array.getElem?_append_left hj, List.getElem?_toArray, ← List.map_append, List.getElem?_map, hx]
    rfl
  exact this
def PartsPost (k : Int) (rest : List UInt8) (w : World) (e : Ending) (w' : World) : Prop :=
  ∃ B c, e = .returned (.slice (some ⟨B, 0, none⟩) (partsF k rest).length c) ∧ TX w' B (partsF k rest) ∧ Below w.heap.size w w'
theorem split_pos (l sep : List UInt8) : Lib.split l sep ≠ [] := by
  unfold Lib.split
  cases Lib.count l sep with
  | zero => simp [Lib.splitK]
  | succ k =>
    unfold Lib.splitK
    split <;> simp
theorem splitK_le (sep : List UInt8) : ∀ (k : Nat) (s : List UInt8), ∀ x ∈ Lib.splitK sep 0 k s, x.length ≤ s.length
  | 0, s, x, hx => by
    simp only [Lib.splitK, List.mem_singleton] at hx
    subst hx; exact Nat.le_refl _
  | k + 1, s, x, hx => by
    unfold Lib.splitK at hx
    split at hx
    · simp only [List.mem_singleton] at hx
      subst hx; exact Nat.le_refl _
    · rcases List.mem_cons.1 hx with rfl | hx
      · rw [List.length_take]; omega
      · have := splitK_le sep k _ x hx
        rw [List.length_drop] at this; omega
theorem split_le (l sep : List UInt8) : ∀ x ∈ Lib.split l sep, x.length ≤ l.length := splitK_le sep _ l
theorem split_len (l sep : List UInt8) : (Lib.split l sep).length ≤ l.length + 2 := by
  have h := Lib.splitB_length_le ⟨sep.toArray⟩ 0 (Lib.count l sep) ⟨l.toArray⟩
  have h2 := congrArg List.length (Lib.splitB_data ⟨sep.toArray⟩ 0 (Lib.count l sep) ⟨l.toArray⟩)
  rw [List.length_map] at h2
  have h3 := Lib.count_le l sep
  have e : Lib.split l sep = Lib.splitK (⟨sep.toArray⟩ : ByteArray).data.toList 0 (Lib.count l sep) (⟨l.toArray⟩ : ByteArray).data.toList := rfl
  rw [e, ← h2]
  omega
theorem cut_le (l sep : List UInt8) : (Lib.cut l sep).1.length ≤ l.length ∧ (Lib.cut l sep).2.1.length ≤ l.length := by
  unfold Lib.cut
  split
  · simp only [List.length_take, List.length_drop]; omega
  · simp
theorem step_run (w : World) {ops : Array Oper} {o : Oper} {a : Act} {K : Act → World → Prop} {Q : Exit → Act → World → Prop} {E : Prop} (hgd : o.guard = none) (s x : Operand) (ho : o.op = .call { callee := .builtin .append, args := #[s, x], argTypes := #[47, 47] })
    (v u r : Value) (w' : World) (hs : a.eval s = v) (hx : a.eval x = u) (hrun : (Builtin.append_ #[47, 47] o.type #[v, u]).run Tryz.prog w = .ok r w') (h : K (a.put o.dst r) w') :
    if Region.wanted o (yielded ops a.tmps) = true then Oper.wp Tryz.prog o a w K Q else E := by
  have hw : Region.wanted o (yielded ops a.tmps) = true := by simp [Region.wanted, hgd]
  rw [if_pos hw]
  unfold Oper.wp execOp
  simp only [ho, resolve, invoke, builtin, Sem.run_bind, Sem.run_pure, Result.andThen_ok, List.map_toArray, List.map_cons, List.map_nil, hs, hx, hrun]
  exact h
theorem slice_less (m B : Nat) (W : World) : (Instr.slice 47 (.slice (some ⟨B, 0, none⟩) (m + 1) (m + 1)) none (some (.int .i64 (m : Int))) none).run Tryz.prog W = .ok (.slice (some ⟨B, 0, none⟩) m (m + 1)) W := by
  have ht : Tryz.prog.underlying 47 = some (.slice (Tryz.prog.elem 47)) := by kernel_rfl
  have hz : (sizeOf (Tryz.prog.elem 47)).run Tryz.prog W = .ok 1 W := by kernel_rfl
  rw [run_slice_h W 47 (some ⟨B, 0, none⟩) (m + 1) (m + 1) ht .i64 (m : Int) (Int.natCast_nonneg _) (by omega), hz]
  simp [Result.andThen, sliced, Addr.add]
theorem sliceAt_less (m B : Nat) (W : World) : (Instr.sliceAt 47 (.slice (some ⟨B, 0, none⟩) (m + 1) (m + 1)) none (some (.int .i64 (m : Int))) none).run Tryz.prog W = .ok (.slice (some ⟨B, 0, none⟩) m (m + 1)) W := by
  have ht : Tryz.prog.underlying 47 = some (.slice (Tryz.prog.elem 47)) := by kernel_rfl
  rw [run_sliceAt_slice W _ _ _ _ _ ht]
  exact slice_less m B W
set_option maxHeartbeats 1000000 in
set_option maxRecDepth 100000 in
theorem parts_any (k : Int) (rest : List UInt8) (w : World) (hn : NA w) (hl : rest.length < 10000) :
    Calls Tryz.prog 35 #[.int .i64 k, .string ⟨rest.toArray⟩] w (PartsPost k rest w) := by
  have H1 := Lib.hid (split_any rest sepT w hn (by omega) (by decide))
  have hne := split_pos rest sepT
  have hle := split_le rest sepT
  have hln := split_len rest sepT
  have HTX := Lib.hid (TX.split w (Lib.split rest sepT))
  have HBS := Lib.hid (below_split w (Lib.split rest sepT))
  have HNS := Lib.hid (hn.on (below_split w (Lib.split rest sepT)))
  unfold PartsPost partsF
  obtain ⟨l, hlx⟩ : ∃ l, Lib.split rest sepT = l := ⟨_, rfl⟩
  rw [hlx] at H1 hne hle hln HTX HBS HNS ⊢
  simp only []
  obtain ⟨W2, hW2⟩ : ∃ W2, splitW w l = W2 := ⟨_, rfl⟩
  rw [hW2] at H1 HTX HBS HNS
  by_cases hk : (k == 3) = true ∨ (k == 4) = true
  · rw [if_pos hk]
    obtain ⟨ys, y, rfl⟩ : ∃ ys y, l = ys ++ [y] := ⟨l.dropLast, l.getLast hne, (List.dropLast_concat_getLast hne).symm⟩
    rw [List.dropLast_concat, List.getLastD_concat]
    obtain ⟨m, hm⟩ : ∃ m, ys.length = m := ⟨_, rfl⟩
    rw [List.length_append, hm, List.length_singleton] at H1
    have hyl := hle y (by simp)
    have hcy := HTX.out.cell m y (by rw [List.getElem?_append_right (by omega), hm, Nat.sub_self]; rfl)
    have HCUT := Lib.hid (cut_any y [40] W2 HNS.out (by omega))
    have hcl := (cut_le y [40]).2
    have HTS := Lib.hid (fun W => trimS_any (Lib.cut y [40]).2.1 [41] W (by omega))
    obtain ⟨a, ha⟩ : ∃ a, (Lib.cut y [40]).1 = a := ⟨_, rfl⟩
    obtain ⟨b, hb⟩ : ∃ b, Lib.trimSuffix (Lib.cut y [40]).2.1 [41] = b := ⟨_, rfl⟩
    rw [ha] at HCUT ⊢
    rw [hb] at HTS ⊢
    have HTY : ∀ W, Below W2.heap.size W2 W → TX W w.heap.size ys := fun W hW => ⟨Nat.lt_of_lt_of_le HTX.out.lt hW.size, fun j x hx => (hW.cell (p := ⟨w.heap.size, j, none⟩) HTX.out.lt).trans (HTX.out.cell j x (by
      have := (List.getElem?_eq_some_iff.1 hx).1
      rw [List.getElem?_append_left this]; exact hx))⟩
    have HTY := Lib.hid HTY
    have hmb : m ≤ 1000000 := by simp only [List.length_append, List.length_singleton, hm] at hln; omega
    have HAP := Lib.hid (fun W ty C (hW : TX W w.heap.size ys) (hC : TX W C [a, b]) => app_texts W ty w.heap.size C m ys [a, b] hm rfl hW hC hmb)
    have HLEN : Hid ((ys ++ [a, b]).length = m + 2) := Lib.hid (by rw [List.length_append, hm]; rfl)
    have hd1 : (k != 3 && k != 4) = false := by rcases hk with h | h <;> (have := beq_iff_eq.1 h; subst this; rfl)
    unfold strV at hcy
    clear hn hl hne hle hln hlx hyl hcl ha hb hm hW2
    rcases hk with h | h
    all_goals
      have := beq_iff_eq.1 h
      subst this
      clear h hd1
      go_enter Tryz.func35, Tryz.ntmps35
      go_wp2_with (first
        | (go_at_call 76; refine H1.out.mono ?_; rintro e w1 ⟨rfl, rfl⟩)
        | (go_at_call 32; refine HCUT.out.mono ?_; rintro e w3 ⟨rfl, hb⟩; have HB3 := Lib.hid hb; clear hb))
      have hU := (HTY.out w3 HB3.out).on (bAlloc (Below.drew (Below.refl w3.heap.size w3)) (.cells #[.string ⟨a.toArray⟩, .string ⟨b.toArray⟩] 9))
      have hC := tx_new w3.drew [a, b] 9 #[.string ⟨a.toArray⟩, .string ⟨b.toArray⟩] rfl
      obtain ⟨cap, W4, hrun, hT4, hB4⟩ := HAP.out _ 47 _ hU hC
      have hz : (w3.drew.alloc (.cells #[.string ⟨a.toArray⟩, .string ⟨b.toArray⟩] 9)).heap.size = w3.heap.size + 1 := by simp
      rw [hz] at hrun hT4
      have hrun : (Builtin.append_ #[47, 47] 47 #[.slice (some ⟨w.heap.size, 0, none⟩) m (m + 1), .slice (some ⟨w3.heap.size, 0, none⟩) 2 2]).run Tryz.prog (w3.drew.alloc (.cells #[.string ⟨a.toArray⟩, .string ⟨b.toArray⟩] 9)) = .ok (.slice (some ⟨w3.heap.size + 1, 0, none⟩) (m + 2) cap) W4 := hrun
      clear hz
      have HT4 := Lib.hid hT4
      have HB4 : Hid (Below w3.heap.size w3 W4) := Lib.hid ((bAlloc (Below.drew (Below.refl w3.heap.size w3)) _).trans (hB4.mono (by simp)))
      have hs1 := slice_less m w.heap.size
      have hs2 := sliceAt_less m w.heap.size
      have hw1 : IntKind.i64.wrap ((m : Int) + 1 - 1) = (m : Int) := by rw [IntKind.wrap_i64]; omega
      have hw2 : IntKind.i64.wrap (m : Int) = (m : Int) := by rw [IntKind.wrap_i64]; omega
      clear hU hC hT4 hB4 hcy
      go_region_law (first
        | (go_simp; go_at_call 77; refine (HTS.out _).mono ?_; rintro e v0 ⟨rfl, rfl⟩; dsimp only)
        | (refine step_run _ rfl _ _ rfl _ _ _ _ rfl rfl hrun ?_; dsimp only))
      all_goals go_wp2_with fail
      all_goals
        go_ret
        exact ⟨w3.heap.size + 1, cap, by rw [HLEN.out]; rfl, HT4.out, HBS.out.trans ((HB3.out.trans (HB4.out.mono HB3.out.size)).mono HBS.out.size)⟩
  · rw [if_neg hk]
    obtain ⟨n, hnl⟩ : ∃ n, l.length = n := ⟨_, rfl⟩
    rw [hnl] at H1 ⊢
    have d1 : (k == 3) = false := by simpa using fun e => hk (.inl (by simpa using e))
    have d2 : (k == 4) = false := by simpa using fun e => hk (.inr (by simpa using e))
    have d3 : (k != 3) = true := by simpa using fun e => hk (.inl (by simpa using e))
    have d4 : (k != 4) = true := by simpa using fun e => hk (.inr (by simpa using e))
    clear hn hl hne hle hln hlx hk hW2 hnl
    go_enter Tryz.func35, Tryz.ntmps35
    go_wp2_with (go_at_call 76; refine H1.out.mono ?_; rintro e w1 ⟨rfl, rfl⟩)
    go_ret
    exact ⟨_, _, rfl, HTX.out, HBS.out⟩
end Go.Proofs.YtdpmihlmfephiaaGreatDoor

