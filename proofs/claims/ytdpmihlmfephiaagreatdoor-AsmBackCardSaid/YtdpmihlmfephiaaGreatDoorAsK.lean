/- An operation's instruction with operands: the program's fill. -/
import Derived.Test.YtdpmihlmfephiaaGreatDoorAsJ
import Derived.Test.YtdpmihlmfephiaaGreatDoorAsQ
namespace Go.Proofs.YtdpmihlmfephiaaGreatDoor
set_option linter.unusedVariables false
set_option linter.unusedSimpArgs false
open Go.Joins Go.ChangeShapes Go.WideShapes Go.ChangeAt Go.RowKit Go.Deep

/-- two new boxes: the result, and the instruction that is filled -/
def fillW (w : World) (op : Int) : World := (w.alloc (.cells #[.int .i64 0, .int .i64 0, .int .i64 0, .int .i64 0, .int .i64 0] 23)).alloc (.cells #[.int .i64 op, .int .i64 0, .int .i64 0, .int .i64 0, .int .i64 0] 23)
theorem below_fill (w : World) (op : Int) : Below w.heap.size w (fillW w op) := bAlloc (bAlloc (Below.refl _ _) _) _
theorem fill_boxes (w W : World) (op : Int) (hb : Below (fillW w op).heap.size (fillW w op) W) : BoxN W w.heap.size #[.int .i64 0, .int .i64 0, .int .i64 0, .int .i64 0, .int .i64 0] ∧ BoxN W (w.heap.size + 1) #[.int .i64 op, .int .i64 0, .int .i64 0, .int .i64 0, .int .i64 0] := by
  have hz : (fillW w op).heap.size = w.heap.size + 2 := by unfold fillW; simp
  rw [hz] at hb
  have h1 : BoxN (fillW w op) w.heap.size #[.int .i64 0, .int .i64 0, .int .i64 0, .int .i64 0, .int .i64 0] := boxN_alloc (BoxN.new w _ _) _
  have h2 : BoxN (fillW w op) (w.heap.size + 1) #[.int .i64 op, .int .i64 0, .int .i64 0, .int .i64 0, .int .i64 0] := by
    have := BoxN.new (w.alloc (.cells #[.int .i64 0, .int .i64 0, .int .i64 0, .int .i64 0, .int .i64 0] 23)) #[.int .i64 op, .int .i64 0, .int .i64 0, .int .i64 0, .int .i64 0] 23
    rw [World.size_alloc] at this
    exact this
  exact ⟨h1.below hb (by omega), h2.below hb (by omega)⟩
theorem box5 {W : World} {B : Nat} {a b c d e : Value} (h : BoxN W B #[a, b, c, d, e]) : (W.cell? ⟨B, 0, none⟩ = some a ∧ W.cell? ⟨B, 1, none⟩ = some b ∧ W.cell? ⟨B, 2, none⟩ = some c ∧ W.cell? ⟨B, 3, none⟩ = some d ∧ W.cell? ⟨B, 4, none⟩ = some e) ∧ (W.frozen? ⟨B, 0, none⟩ = false ∧ W.frozen? ⟨B, 1, none⟩ = false ∧ W.frozen? ⟨B, 2, none⟩ = false ∧ W.frozen? ⟨B, 3, none⟩ = false ∧ W.frozen? ⟨B, 4, none⟩ = false) :=
  ⟨⟨h.cell 0, h.cell 1, h.cell 2, h.cell 3, h.cell 4⟩, h.frozen 0, h.frozen 1, h.frozen 2, h.frozen 3, h.frozen 4⟩
theorem registerAt_z (B c : Nat) (xs : List (List UInt8)) (i : Nat) (z : Int) (hz : z = (i : Int)) (w : World) (hn : NA w) (h : TX w B xs) (hx : ∀ x ∈ xs, x.length < 1000000) (hl : xs.length < 1000000) (hi : i < 1000) :
    Calls Tryz.prog 74 #[.slice (some ⟨B, 0, none⟩) xs.length c, .int .i64 z] w fun e w' => e = .returned (.int .i64 (regAt xs i)) ∧ Below w.heap.size w w' := by
  subst hz; exact registerAt_any B c xs i w hn h hx hl hi
theorem numberAt_z (B c : Nat) (xs : List (List UInt8)) (i : Nat) (z : Int) (hz : z = (i : Int)) (w : World) (hn : NA w) (h : TX w B xs) (hx : ∀ x ∈ xs, x.length < 1000000) (hl : xs.length < 1000000) (hi : i < 1000) :
    Calls Tryz.prog 75 #[.slice (some ⟨B, 0, none⟩) xs.length c, .int .i64 z] w fun e w' => e = .returned (.int .i64 (numAt xs i)) ∧ Below w.heap.size w w' := by
  subst hz; exact numberAt_any B c xs i w hn h hx hl hi
theorem fill_res (W : World) (B : Nat) (a b c d e : Value) (tmps : Array Value) (ht : tmps[4]? = some (.pointer (some ⟨B, 0, none⟩))) (hb : BoxN W B #[a, b, c, d, e]) : (results Tryz.f34 tmps).run Tryz.prog W = .ok (.agg #[a, b, c, d, e]) W := by
  obtain ⟨⟨k0, k1, k2, k3, k4⟩, -⟩ := box5 hb
  simp [results, Tryz.results34, go_sem, ht, k0, k1, k2, k3, k4]
theorem numB_i64 (s : List UInt8) : I64 (numB s) := by have := numB_in s; exact ⟨by omega, by omega⟩
theorem regAt_in (l : List (List UInt8)) (i : Nat) : I64 (regAt l i) := by
  unfold regAt
  split
  · exact numB_i64 _
  · exact ⟨by decide, by decide⟩
theorem numAt_in (l : List (List UInt8)) (i : Nat) : I64 (numAt l i) := by
  unfold numAt
  split
  · exact numB_i64 _
  · exact ⟨by decide, by decide⟩
set_option maxRecDepth 100000 in
set_option maxHeartbeats 2000000 in
theorem fill_1 (op : Int) (B c : Nat) (l : List (List UInt8)) (w : World) (hn : NA w) (hT : TX w B l) (hx : ∀ x ∈ l, x.length < 1000000) (hl : l.length < 1000000) (hk : kindA op = 1) :
    Calls Tryz.prog 34 #[.int .i64 op, .slice (some ⟨B, 0, none⟩) l.length c] w fun e w' => e = .returned (.agg #[.int .i64 op, .int .i64 (regAt l 0), .int .i64 (regAt l 1), .int .i64 (regAt l 2), .int .i64 0]) ∧ Below w.heap.size w w' := by
  have HK := Lib.hid (fun W (hW : NA W) => kind_any op W hW.nt)
  rw [kindA_eq, hk] at HK
  have HBX := Lib.hid (fun W hb => fill_boxes w W op hb)
  have HBW := Lib.hid (below_fill w op)
  have HNW := Lib.hid (hn.on (below_fill w op))
  have HTW := Lib.hid (hT.on (below_fill w op))
  have H0 := Lib.hid (fun W (hW : NA W) (hTT : TX W B l) => registerAt_z B c l 0 0 rfl W hW hTT hx hl (by decide))
  have H1 := Lib.hid (fun W (hW : NA W) (hTT : TX W B l) => registerAt_z B c l 1 1 rfl W hW hTT hx hl (by decide))
  have H2 := Lib.hid (fun W (hW : NA W) (hTT : TX W B l) => registerAt_z B c l 2 2 rfl W hW hTT hx hl (by decide))
  have V0 := Lib.hid (regAt_in l 0)
  have V1 := Lib.hid (regAt_in l 1)
  have V2 := Lib.hid (regAt_in l 2)
  obtain ⟨x0, hx0⟩ : ∃ x, regAt l 0 = x := ⟨_, rfl⟩
  rw [hx0] at H0 V0 ⊢
  clear hx0
  obtain ⟨x1, hx1⟩ : ∃ x, regAt l 1 = x := ⟨_, rfl⟩
  rw [hx1] at H1 V1 ⊢
  clear hx1
  obtain ⟨x2, hx2⟩ : ∃ x, regAt l 2 = x := ⟨_, rfl⟩
  rw [hx2] at H2 V2 ⊢
  clear hx2
  obtain ⟨n, hnl⟩ : ∃ n, l.length = n := ⟨_, rfl⟩
  rw [hnl] at H0 H1 H2 ⊢
  obtain ⟨W2, hW2⟩ : ∃ W2, fillW w op = W2 := ⟨_, rfl⟩
  rw [hW2] at HBX HBW HNW HTW
  unfold fillW at hW2
  have HW2 := Lib.hid hW2
  clear hW2 hn hT hx hl hk hnl
  go_enter Tryz.func34, Tryz.ntmps34
  go_upto_region 2 with fail
  rw [HW2.out]
  clear HW2
  go_wp2_with (first
    | (go_at_call 36; refine (HK.out _ HNW.out).mono ?_; rintro e w3 ⟨rfl, hb⟩; have HBD := Lib.hid hb; have HND := Lib.hid (HNW.out.on hb); have HTD := Lib.hid (HTW.out.on hb); clear hb)
    | (go_at_call 74; (with_reducible refine (H0.out _ HND.out HTD.out).mono ?_); rintro e v0 ⟨rfl, hb⟩; have HND := Lib.hid (HND.out.on hb); have HTD := Lib.hid (HTD.out.on hb); have HBD := Lib.hid (HBD.out.trans (hb.mono HBD.out.size)); clear hb)
    | (go_at_call 74; (with_reducible refine (H1.out _ HND.out HTD.out).mono ?_); rintro e v1 ⟨rfl, hb⟩; have HND := Lib.hid (HND.out.on hb); have HTD := Lib.hid (HTD.out.on hb); have HBD := Lib.hid (HBD.out.trans (hb.mono HBD.out.size)); clear hb)
    | (go_at_call 74; (with_reducible refine (H2.out _ HND.out HTD.out).mono ?_); rintro e v2 ⟨rfl, hb⟩; have HND := Lib.hid (HND.out.on hb); have HTD := Lib.hid (HTD.out.on hb); have HBD := Lib.hid (HBD.out.trans (hb.mono HBD.out.size)); obtain ⟨b1, b2⟩ := HBX.out _ HBD.out; obtain ⟨⟨p0, p1, p2, p3, p4⟩, q0, q1, q2, q3, q4⟩ := box5 b1; obtain ⟨⟨r0, r1, r2, r3, r4⟩, s0, s1, s2, s3, s4⟩ := box5 b2; clear b1 b2; clear hb))
  have hfin := (((((((((HBX.out _ HBD.out).1.other (j := 1) (x := .int .i64 x0) (Nat.ne_of_lt (Nat.lt_succ_self w.heap.size))).other (j := 2) (x := .int .i64 x1) (Nat.ne_of_lt (Nat.lt_succ_self w.heap.size))).other (j := 3) (x := .int .i64 x2) (Nat.ne_of_lt (Nat.lt_succ_self w.heap.size))).set 0 (.int .i64 op)).set 1 (.int .i64 x0)).set 2 (.int .i64 x1)).set 3 (.int .i64 x2)).set 4 (.int .i64 0))
  refine bodyPost_ret (v := .agg #[.int .i64 op, .int .i64 x0, .int .i64 x1, .int .i64 x2, .int .i64 0]) (fill_res _ w.heap.size _ _ _ _ _ _ rfl hfin) rfl ⟨rfl, ?_⟩
  repeat (with_reducible refine Below.setCell ?_ (by first | exact Nat.le_refl _ | exact Nat.le_succ _) _)
  exact HBW.out.trans (HBD.out.mono HBW.out.size)
set_option maxRecDepth 100000 in
set_option maxHeartbeats 2000000 in
theorem fill_2 (op : Int) (B c : Nat) (l : List (List UInt8)) (w : World) (hn : NA w) (hT : TX w B l) (hx : ∀ x ∈ l, x.length < 1000000) (hl : l.length < 1000000) (hk : kindA op = 2) :
    Calls Tryz.prog 34 #[.int .i64 op, .slice (some ⟨B, 0, none⟩) l.length c] w fun e w' => e = .returned (.agg #[.int .i64 op, .int .i64 (regAt l 0), .int .i64 (regAt l 1), .int .i64 0, .int .i64 (numAt l 2)]) ∧ Below w.heap.size w w' := by
  have HK := Lib.hid (fun W (hW : NA W) => kind_any op W hW.nt)
  rw [kindA_eq, hk] at HK
  have HBX := Lib.hid (fun W hb => fill_boxes w W op hb)
  have HBW := Lib.hid (below_fill w op)
  have HNW := Lib.hid (hn.on (below_fill w op))
  have HTW := Lib.hid (hT.on (below_fill w op))
  have H0 := Lib.hid (fun W (hW : NA W) (hTT : TX W B l) => registerAt_z B c l 0 0 rfl W hW hTT hx hl (by decide))
  have H1 := Lib.hid (fun W (hW : NA W) (hTT : TX W B l) => registerAt_z B c l 1 1 rfl W hW hTT hx hl (by decide))
  have H2 := Lib.hid (fun W (hW : NA W) (hTT : TX W B l) => numberAt_z B c l 2 2 rfl W hW hTT hx hl (by decide))
  have V0 := Lib.hid (regAt_in l 0)
  have V1 := Lib.hid (regAt_in l 1)
  have V2 := Lib.hid (numAt_in l 2)
  obtain ⟨x0, hx0⟩ : ∃ x, regAt l 0 = x := ⟨_, rfl⟩
  rw [hx0] at H0 V0 ⊢
  clear hx0
  obtain ⟨x1, hx1⟩ : ∃ x, regAt l 1 = x := ⟨_, rfl⟩
  rw [hx1] at H1 V1 ⊢
  clear hx1
  obtain ⟨x2, hx2⟩ : ∃ x, numAt l 2 = x := ⟨_, rfl⟩
  rw [hx2] at H2 V2 ⊢
  clear hx2
  obtain ⟨n, hnl⟩ : ∃ n, l.length = n := ⟨_, rfl⟩
  rw [hnl] at H0 H1 H2 ⊢
  obtain ⟨W2, hW2⟩ : ∃ W2, fillW w op = W2 := ⟨_, rfl⟩
  rw [hW2] at HBX HBW HNW HTW
  unfold fillW at hW2
  have HW2 := Lib.hid hW2
  clear hW2 hn hT hx hl hk hnl
  go_enter Tryz.func34, Tryz.ntmps34
  go_upto_region 2 with fail
  rw [HW2.out]
  clear HW2
  go_wp2_with (first
    | (go_at_call 36; refine (HK.out _ HNW.out).mono ?_; rintro e w3 ⟨rfl, hb⟩; have HBD := Lib.hid hb; have HND := Lib.hid (HNW.out.on hb); have HTD := Lib.hid (HTW.out.on hb); clear hb)
    | (go_at_call 74; (with_reducible refine (H0.out _ HND.out HTD.out).mono ?_); rintro e v0 ⟨rfl, hb⟩; have HND := Lib.hid (HND.out.on hb); have HTD := Lib.hid (HTD.out.on hb); have HBD := Lib.hid (HBD.out.trans (hb.mono HBD.out.size)); clear hb)
    | (go_at_call 74; (with_reducible refine (H1.out _ HND.out HTD.out).mono ?_); rintro e v1 ⟨rfl, hb⟩; have HND := Lib.hid (HND.out.on hb); have HTD := Lib.hid (HTD.out.on hb); have HBD := Lib.hid (HBD.out.trans (hb.mono HBD.out.size)); clear hb)
    | (go_at_call 75; (with_reducible refine (H2.out _ HND.out HTD.out).mono ?_); rintro e v2 ⟨rfl, hb⟩; have HND := Lib.hid (HND.out.on hb); have HTD := Lib.hid (HTD.out.on hb); have HBD := Lib.hid (HBD.out.trans (hb.mono HBD.out.size)); obtain ⟨b1, b2⟩ := HBX.out _ HBD.out; obtain ⟨⟨p0, p1, p2, p3, p4⟩, q0, q1, q2, q3, q4⟩ := box5 b1; obtain ⟨⟨r0, r1, r2, r3, r4⟩, s0, s1, s2, s3, s4⟩ := box5 b2; clear b1 b2; clear hb))
  have hfin := (((((((((HBX.out _ HBD.out).1.other (j := 1) (x := .int .i64 x0) (Nat.ne_of_lt (Nat.lt_succ_self w.heap.size))).other (j := 2) (x := .int .i64 x1) (Nat.ne_of_lt (Nat.lt_succ_self w.heap.size))).other (j := 4) (x := .int .i64 x2) (Nat.ne_of_lt (Nat.lt_succ_self w.heap.size))).set 0 (.int .i64 op)).set 1 (.int .i64 x0)).set 2 (.int .i64 x1)).set 3 (.int .i64 0)).set 4 (.int .i64 x2))
  refine bodyPost_ret (v := .agg #[.int .i64 op, .int .i64 x0, .int .i64 x1, .int .i64 0, .int .i64 x2]) (fill_res _ w.heap.size _ _ _ _ _ _ rfl hfin) rfl ⟨rfl, ?_⟩
  repeat (with_reducible refine Below.setCell ?_ (by first | exact Nat.le_refl _ | exact Nat.le_succ _) _)
  exact HBW.out.trans (HBD.out.mono HBW.out.size)
set_option maxRecDepth 100000 in
set_option maxHeartbeats 2000000 in
theorem fill_3 (op : Int) (B c : Nat) (l : List (List UInt8)) (w : World) (hn : NA w) (hT : TX w B l) (hx : ∀ x ∈ l, x.length < 1000000) (hl : l.length < 1000000) (hk : kindA op = 3) :
    Calls Tryz.prog 34 #[.int .i64 op, .slice (some ⟨B, 0, none⟩) l.length c] w fun e w' => e = .returned (.agg #[.int .i64 op, .int .i64 (regAt l 0), .int .i64 (regAt l 2), .int .i64 0, .int .i64 (numAt l 1)]) ∧ Below w.heap.size w w' := by
  have HK := Lib.hid (fun W (hW : NA W) => kind_any op W hW.nt)
  rw [kindA_eq, hk] at HK
  have HBX := Lib.hid (fun W hb => fill_boxes w W op hb)
  have HBW := Lib.hid (below_fill w op)
  have HNW := Lib.hid (hn.on (below_fill w op))
  have HTW := Lib.hid (hT.on (below_fill w op))
  have H0 := Lib.hid (fun W (hW : NA W) (hTT : TX W B l) => registerAt_z B c l 0 0 rfl W hW hTT hx hl (by decide))
  have H1 := Lib.hid (fun W (hW : NA W) (hTT : TX W B l) => numberAt_z B c l 1 1 rfl W hW hTT hx hl (by decide))
  have H2 := Lib.hid (fun W (hW : NA W) (hTT : TX W B l) => registerAt_z B c l 2 2 rfl W hW hTT hx hl (by decide))
  have V0 := Lib.hid (regAt_in l 0)
  have V1 := Lib.hid (numAt_in l 1)
  have V2 := Lib.hid (regAt_in l 2)
  obtain ⟨x0, hx0⟩ : ∃ x, regAt l 0 = x := ⟨_, rfl⟩
  rw [hx0] at H0 V0 ⊢
  clear hx0
  obtain ⟨x1, hx1⟩ : ∃ x, numAt l 1 = x := ⟨_, rfl⟩
  rw [hx1] at H1 V1 ⊢
  clear hx1
  obtain ⟨x2, hx2⟩ : ∃ x, regAt l 2 = x := ⟨_, rfl⟩
  rw [hx2] at H2 V2 ⊢
  clear hx2
  obtain ⟨n, hnl⟩ : ∃ n, l.length = n := ⟨_, rfl⟩
  rw [hnl] at H0 H1 H2 ⊢
  obtain ⟨W2, hW2⟩ : ∃ W2, fillW w op = W2 := ⟨_, rfl⟩
  rw [hW2] at HBX HBW HNW HTW
  unfold fillW at hW2
  have HW2 := Lib.hid hW2
  clear hW2 hn hT hx hl hk hnl
  go_enter Tryz.func34, Tryz.ntmps34
  go_upto_region 2 with fail
  rw [HW2.out]
  clear HW2
  go_wp2_with (first
    | (go_at_call 36; refine (HK.out _ HNW.out).mono ?_; rintro e w3 ⟨rfl, hb⟩; have HBD := Lib.hid hb; have HND := Lib.hid (HNW.out.on hb); have HTD := Lib.hid (HTW.out.on hb); clear hb)
    | (go_at_call 74; (with_reducible refine (H0.out _ HND.out HTD.out).mono ?_); rintro e v0 ⟨rfl, hb⟩; have HND := Lib.hid (HND.out.on hb); have HTD := Lib.hid (HTD.out.on hb); have HBD := Lib.hid (HBD.out.trans (hb.mono HBD.out.size)); clear hb)
    | (go_at_call 75; (with_reducible refine (H1.out _ HND.out HTD.out).mono ?_); rintro e v1 ⟨rfl, hb⟩; have HND := Lib.hid (HND.out.on hb); have HTD := Lib.hid (HTD.out.on hb); have HBD := Lib.hid (HBD.out.trans (hb.mono HBD.out.size)); clear hb)
    | (go_at_call 74; (with_reducible refine (H2.out _ HND.out HTD.out).mono ?_); rintro e v2 ⟨rfl, hb⟩; have HND := Lib.hid (HND.out.on hb); have HTD := Lib.hid (HTD.out.on hb); have HBD := Lib.hid (HBD.out.trans (hb.mono HBD.out.size)); obtain ⟨b1, b2⟩ := HBX.out _ HBD.out; obtain ⟨⟨p0, p1, p2, p3, p4⟩, q0, q1, q2, q3, q4⟩ := box5 b1; obtain ⟨⟨r0, r1, r2, r3, r4⟩, s0, s1, s2, s3, s4⟩ := box5 b2; clear b1 b2; clear hb))
  have hfin := (((((((((HBX.out _ HBD.out).1.other (j := 1) (x := .int .i64 x0) (Nat.ne_of_lt (Nat.lt_succ_self w.heap.size))).other (j := 4) (x := .int .i64 x1) (Nat.ne_of_lt (Nat.lt_succ_self w.heap.size))).other (j := 2) (x := .int .i64 x2) (Nat.ne_of_lt (Nat.lt_succ_self w.heap.size))).set 0 (.int .i64 op)).set 1 (.int .i64 x0)).set 2 (.int .i64 x2)).set 3 (.int .i64 0)).set 4 (.int .i64 x1))
  refine bodyPost_ret (v := .agg #[.int .i64 op, .int .i64 x0, .int .i64 x2, .int .i64 0, .int .i64 x1]) (fill_res _ w.heap.size _ _ _ _ _ _ rfl hfin) rfl ⟨rfl, ?_⟩
  repeat (with_reducible refine Below.setCell ?_ (by first | exact Nat.le_refl _ | exact Nat.le_succ _) _)
  exact HBW.out.trans (HBD.out.mono HBW.out.size)
set_option maxRecDepth 100000 in
set_option maxHeartbeats 2000000 in
theorem fill_4 (op : Int) (B c : Nat) (l : List (List UInt8)) (w : World) (hn : NA w) (hT : TX w B l) (hx : ∀ x ∈ l, x.length < 1000000) (hl : l.length < 1000000) (hk : kindA op = 4) :
    Calls Tryz.prog 34 #[.int .i64 op, .slice (some ⟨B, 0, none⟩) l.length c] w fun e w' => e = .returned (.agg #[.int .i64 op, .int .i64 0, .int .i64 (regAt l 2), .int .i64 (regAt l 0), .int .i64 (numAt l 1)]) ∧ Below w.heap.size w w' := by
  have HK := Lib.hid (fun W (hW : NA W) => kind_any op W hW.nt)
  rw [kindA_eq, hk] at HK
  have HBX := Lib.hid (fun W hb => fill_boxes w W op hb)
  have HBW := Lib.hid (below_fill w op)
  have HNW := Lib.hid (hn.on (below_fill w op))
  have HTW := Lib.hid (hT.on (below_fill w op))
  have H0 := Lib.hid (fun W (hW : NA W) (hTT : TX W B l) => registerAt_z B c l 0 0 rfl W hW hTT hx hl (by decide))
  have H1 := Lib.hid (fun W (hW : NA W) (hTT : TX W B l) => numberAt_z B c l 1 1 rfl W hW hTT hx hl (by decide))
  have H2 := Lib.hid (fun W (hW : NA W) (hTT : TX W B l) => registerAt_z B c l 2 2 rfl W hW hTT hx hl (by decide))
  have V0 := Lib.hid (regAt_in l 0)
  have V1 := Lib.hid (numAt_in l 1)
  have V2 := Lib.hid (regAt_in l 2)
  obtain ⟨x0, hx0⟩ : ∃ x, regAt l 0 = x := ⟨_, rfl⟩
  rw [hx0] at H0 V0 ⊢
  clear hx0
  obtain ⟨x1, hx1⟩ : ∃ x, numAt l 1 = x := ⟨_, rfl⟩
  rw [hx1] at H1 V1 ⊢
  clear hx1
  obtain ⟨x2, hx2⟩ : ∃ x, regAt l 2 = x := ⟨_, rfl⟩
  rw [hx2] at H2 V2 ⊢
  clear hx2
  obtain ⟨n, hnl⟩ : ∃ n, l.length = n := ⟨_, rfl⟩
  rw [hnl] at H0 H1 H2 ⊢
  obtain ⟨W2, hW2⟩ : ∃ W2, fillW w op = W2 := ⟨_, rfl⟩
  rw [hW2] at HBX HBW HNW HTW
  unfold fillW at hW2
  have HW2 := Lib.hid hW2
  clear hW2 hn hT hx hl hk hnl
  go_enter Tryz.func34, Tryz.ntmps34
  go_upto_region 2 with fail
  rw [HW2.out]
  clear HW2
  go_wp2_with (first
    | (go_at_call 36; refine (HK.out _ HNW.out).mono ?_; rintro e w3 ⟨rfl, hb⟩; have HBD := Lib.hid hb; have HND := Lib.hid (HNW.out.on hb); have HTD := Lib.hid (HTW.out.on hb); clear hb)
    | (go_at_call 74; (with_reducible refine (H0.out _ HND.out HTD.out).mono ?_); rintro e v0 ⟨rfl, hb⟩; have HND := Lib.hid (HND.out.on hb); have HTD := Lib.hid (HTD.out.on hb); have HBD := Lib.hid (HBD.out.trans (hb.mono HBD.out.size)); clear hb)
    | (go_at_call 75; (with_reducible refine (H1.out _ HND.out HTD.out).mono ?_); rintro e v1 ⟨rfl, hb⟩; have HND := Lib.hid (HND.out.on hb); have HTD := Lib.hid (HTD.out.on hb); have HBD := Lib.hid (HBD.out.trans (hb.mono HBD.out.size)); clear hb)
    | (go_at_call 74; (with_reducible refine (H2.out _ HND.out HTD.out).mono ?_); rintro e v2 ⟨rfl, hb⟩; have HND := Lib.hid (HND.out.on hb); have HTD := Lib.hid (HTD.out.on hb); have HBD := Lib.hid (HBD.out.trans (hb.mono HBD.out.size)); obtain ⟨b1, b2⟩ := HBX.out _ HBD.out; obtain ⟨⟨p0, p1, p2, p3, p4⟩, q0, q1, q2, q3, q4⟩ := box5 b1; obtain ⟨⟨r0, r1, r2, r3, r4⟩, s0, s1, s2, s3, s4⟩ := box5 b2; clear b1 b2; clear hb))
  have hfin := (((((((((HBX.out _ HBD.out).1.other (j := 3) (x := .int .i64 x0) (Nat.ne_of_lt (Nat.lt_succ_self w.heap.size))).other (j := 4) (x := .int .i64 x1) (Nat.ne_of_lt (Nat.lt_succ_self w.heap.size))).other (j := 2) (x := .int .i64 x2) (Nat.ne_of_lt (Nat.lt_succ_self w.heap.size))).set 0 (.int .i64 op)).set 1 (.int .i64 0)).set 2 (.int .i64 x2)).set 3 (.int .i64 x0)).set 4 (.int .i64 x1))
  refine bodyPost_ret (v := .agg #[.int .i64 op, .int .i64 0, .int .i64 x2, .int .i64 x0, .int .i64 x1]) (fill_res _ w.heap.size _ _ _ _ _ _ rfl hfin) rfl ⟨rfl, ?_⟩
  repeat (with_reducible refine Below.setCell ?_ (by first | exact Nat.le_refl _ | exact Nat.le_succ _) _)
  exact HBW.out.trans (HBD.out.mono HBW.out.size)
set_option maxRecDepth 100000 in
set_option maxHeartbeats 2000000 in
theorem fill_5 (op : Int) (B c : Nat) (l : List (List UInt8)) (w : World) (hn : NA w) (hT : TX w B l) (hx : ∀ x ∈ l, x.length < 1000000) (hl : l.length < 1000000) (hk : kindA op = 5) :
    Calls Tryz.prog 34 #[.int .i64 op, .slice (some ⟨B, 0, none⟩) l.length c] w fun e w' => e = .returned (.agg #[.int .i64 op, .int .i64 0, .int .i64 (regAt l 0), .int .i64 (regAt l 1), .int .i64 (numAt l 2)]) ∧ Below w.heap.size w w' := by
  have HK := Lib.hid (fun W (hW : NA W) => kind_any op W hW.nt)
  rw [kindA_eq, hk] at HK
  have HBX := Lib.hid (fun W hb => fill_boxes w W op hb)
  have HBW := Lib.hid (below_fill w op)
  have HNW := Lib.hid (hn.on (below_fill w op))
  have HTW := Lib.hid (hT.on (below_fill w op))
  have H0 := Lib.hid (fun W (hW : NA W) (hTT : TX W B l) => registerAt_z B c l 0 0 rfl W hW hTT hx hl (by decide))
  have H1 := Lib.hid (fun W (hW : NA W) (hTT : TX W B l) => registerAt_z B c l 1 1 rfl W hW hTT hx hl (by decide))
  have H2 := Lib.hid (fun W (hW : NA W) (hTT : TX W B l) => numberAt_z B c l 2 2 rfl W hW hTT hx hl (by decide))
  have V0 := Lib.hid (regAt_in l 0)
  have V1 := Lib.hid (regAt_in l 1)
  have V2 := Lib.hid (numAt_in l 2)
  obtain ⟨x0, hx0⟩ : ∃ x, regAt l 0 = x := ⟨_, rfl⟩
  rw [hx0] at H0 V0 ⊢
  clear hx0
  obtain ⟨x1, hx1⟩ : ∃ x, regAt l 1 = x := ⟨_, rfl⟩
  rw [hx1] at H1 V1 ⊢
  clear hx1
  obtain ⟨x2, hx2⟩ : ∃ x, numAt l 2 = x := ⟨_, rfl⟩
  rw [hx2] at H2 V2 ⊢
  clear hx2
  obtain ⟨n, hnl⟩ : ∃ n, l.length = n := ⟨_, rfl⟩
  rw [hnl] at H0 H1 H2 ⊢
  obtain ⟨W2, hW2⟩ : ∃ W2, fillW w op = W2 := ⟨_, rfl⟩
  rw [hW2] at HBX HBW HNW HTW
  unfold fillW at hW2
  have HW2 := Lib.hid hW2
  clear hW2 hn hT hx hl hk hnl
  go_enter Tryz.func34, Tryz.ntmps34
  go_upto_region 2 with fail
  rw [HW2.out]
  clear HW2
  go_wp2_with (first
    | (go_at_call 36; refine (HK.out _ HNW.out).mono ?_; rintro e w3 ⟨rfl, hb⟩; have HBD := Lib.hid hb; have HND := Lib.hid (HNW.out.on hb); have HTD := Lib.hid (HTW.out.on hb); clear hb)
    | (go_at_call 74; (with_reducible refine (H0.out _ HND.out HTD.out).mono ?_); rintro e v0 ⟨rfl, hb⟩; have HND := Lib.hid (HND.out.on hb); have HTD := Lib.hid (HTD.out.on hb); have HBD := Lib.hid (HBD.out.trans (hb.mono HBD.out.size)); clear hb)
    | (go_at_call 74; (with_reducible refine (H1.out _ HND.out HTD.out).mono ?_); rintro e v1 ⟨rfl, hb⟩; have HND := Lib.hid (HND.out.on hb); have HTD := Lib.hid (HTD.out.on hb); have HBD := Lib.hid (HBD.out.trans (hb.mono HBD.out.size)); clear hb)
    | (go_at_call 75; (with_reducible refine (H2.out _ HND.out HTD.out).mono ?_); rintro e v2 ⟨rfl, hb⟩; have HND := Lib.hid (HND.out.on hb); have HTD := Lib.hid (HTD.out.on hb); have HBD := Lib.hid (HBD.out.trans (hb.mono HBD.out.size)); obtain ⟨b1, b2⟩ := HBX.out _ HBD.out; obtain ⟨⟨p0, p1, p2, p3, p4⟩, q0, q1, q2, q3, q4⟩ := box5 b1; obtain ⟨⟨r0, r1, r2, r3, r4⟩, s0, s1, s2, s3, s4⟩ := box5 b2; clear b1 b2; clear hb))
  have hfin := (((((((((HBX.out _ HBD.out).1.other (j := 2) (x := .int .i64 x0) (Nat.ne_of_lt (Nat.lt_succ_self w.heap.size))).other (j := 3) (x := .int .i64 x1) (Nat.ne_of_lt (Nat.lt_succ_self w.heap.size))).other (j := 4) (x := .int .i64 x2) (Nat.ne_of_lt (Nat.lt_succ_self w.heap.size))).set 0 (.int .i64 op)).set 1 (.int .i64 0)).set 2 (.int .i64 x0)).set 3 (.int .i64 x1)).set 4 (.int .i64 x2))
  refine bodyPost_ret (v := .agg #[.int .i64 op, .int .i64 0, .int .i64 x0, .int .i64 x1, .int .i64 x2]) (fill_res _ w.heap.size _ _ _ _ _ _ rfl hfin) rfl ⟨rfl, ?_⟩
  repeat (with_reducible refine Below.setCell ?_ (by first | exact Nat.le_refl _ | exact Nat.le_succ _) _)
  exact HBW.out.trans (HBD.out.mono HBW.out.size)
set_option maxRecDepth 100000 in
set_option maxHeartbeats 2000000 in
theorem fill_6 (op : Int) (B c : Nat) (l : List (List UInt8)) (w : World) (hn : NA w) (hT : TX w B l) (hx : ∀ x ∈ l, x.length < 1000000) (hl : l.length < 1000000) (hk : kindA op = 6) :
    Calls Tryz.prog 34 #[.int .i64 op, .slice (some ⟨B, 0, none⟩) l.length c] w fun e w' => e = .returned (.agg #[.int .i64 op, .int .i64 (regAt l 0), .int .i64 0, .int .i64 0, .int .i64 (numAt l 1)]) ∧ Below w.heap.size w w' := by
  have HK := Lib.hid (fun W (hW : NA W) => kind_any op W hW.nt)
  rw [kindA_eq, hk] at HK
  have HBX := Lib.hid (fun W hb => fill_boxes w W op hb)
  have HBW := Lib.hid (below_fill w op)
  have HNW := Lib.hid (hn.on (below_fill w op))
  have HTW := Lib.hid (hT.on (below_fill w op))
  have H0 := Lib.hid (fun W (hW : NA W) (hTT : TX W B l) => registerAt_z B c l 0 0 rfl W hW hTT hx hl (by decide))
  have H1 := Lib.hid (fun W (hW : NA W) (hTT : TX W B l) => numberAt_z B c l 1 1 rfl W hW hTT hx hl (by decide))
  have V0 := Lib.hid (regAt_in l 0)
  have V1 := Lib.hid (numAt_in l 1)
  obtain ⟨x0, hx0⟩ : ∃ x, regAt l 0 = x := ⟨_, rfl⟩
  rw [hx0] at H0 V0 ⊢
  clear hx0
  obtain ⟨x1, hx1⟩ : ∃ x, numAt l 1 = x := ⟨_, rfl⟩
  rw [hx1] at H1 V1 ⊢
  clear hx1
  obtain ⟨n, hnl⟩ : ∃ n, l.length = n := ⟨_, rfl⟩
  rw [hnl] at H0 H1 ⊢
  obtain ⟨W2, hW2⟩ : ∃ W2, fillW w op = W2 := ⟨_, rfl⟩
  rw [hW2] at HBX HBW HNW HTW
  unfold fillW at hW2
  have HW2 := Lib.hid hW2
  clear hW2 hn hT hx hl hk hnl
  go_enter Tryz.func34, Tryz.ntmps34
  go_upto_region 2 with fail
  rw [HW2.out]
  clear HW2
  go_wp2_with (first
    | (go_at_call 36; refine (HK.out _ HNW.out).mono ?_; rintro e w3 ⟨rfl, hb⟩; have HBD := Lib.hid hb; have HND := Lib.hid (HNW.out.on hb); have HTD := Lib.hid (HTW.out.on hb); clear hb)
    | (go_at_call 74; (with_reducible refine (H0.out _ HND.out HTD.out).mono ?_); rintro e v0 ⟨rfl, hb⟩; have HND := Lib.hid (HND.out.on hb); have HTD := Lib.hid (HTD.out.on hb); have HBD := Lib.hid (HBD.out.trans (hb.mono HBD.out.size)); clear hb)
    | (go_at_call 75; (with_reducible refine (H1.out _ HND.out HTD.out).mono ?_); rintro e v1 ⟨rfl, hb⟩; have HND := Lib.hid (HND.out.on hb); have HTD := Lib.hid (HTD.out.on hb); have HBD := Lib.hid (HBD.out.trans (hb.mono HBD.out.size)); obtain ⟨b1, b2⟩ := HBX.out _ HBD.out; obtain ⟨⟨p0, p1, p2, p3, p4⟩, q0, q1, q2, q3, q4⟩ := box5 b1; obtain ⟨⟨r0, r1, r2, r3, r4⟩, s0, s1, s2, s3, s4⟩ := box5 b2; clear b1 b2; clear hb))
  have hfin := ((((((((HBX.out _ HBD.out).1.other (j := 1) (x := .int .i64 x0) (Nat.ne_of_lt (Nat.lt_succ_self w.heap.size))).other (j := 4) (x := .int .i64 x1) (Nat.ne_of_lt (Nat.lt_succ_self w.heap.size))).set 0 (.int .i64 op)).set 1 (.int .i64 x0)).set 2 (.int .i64 0)).set 3 (.int .i64 0)).set 4 (.int .i64 x1))
  refine bodyPost_ret (v := .agg #[.int .i64 op, .int .i64 x0, .int .i64 0, .int .i64 0, .int .i64 x1]) (fill_res _ w.heap.size _ _ _ _ _ _ rfl hfin) rfl ⟨rfl, ?_⟩
  repeat (with_reducible refine Below.setCell ?_ (by first | exact Nat.le_refl _ | exact Nat.le_succ _) _)
  exact HBW.out.trans (HBD.out.mono HBW.out.size)
set_option maxRecDepth 100000 in
set_option maxHeartbeats 2000000 in
theorem fill_7 (op : Int) (B c : Nat) (l : List (List UInt8)) (w : World) (hn : NA w) (hT : TX w B l) (hx : ∀ x ∈ l, x.length < 1000000) (hl : l.length < 1000000) (hk : kindA op = 7) :
    Calls Tryz.prog 34 #[.int .i64 op, .slice (some ⟨B, 0, none⟩) l.length c] w fun e w' => e = .returned (.agg #[.int .i64 op, .int .i64 (regAt l 0), .int .i64 0, .int .i64 0, .int .i64 (numAt l 1)]) ∧ Below w.heap.size w w' := by
  have HK := Lib.hid (fun W (hW : NA W) => kind_any op W hW.nt)
  rw [kindA_eq, hk] at HK
  have HBX := Lib.hid (fun W hb => fill_boxes w W op hb)
  have HBW := Lib.hid (below_fill w op)
  have HNW := Lib.hid (hn.on (below_fill w op))
  have HTW := Lib.hid (hT.on (below_fill w op))
  have H0 := Lib.hid (fun W (hW : NA W) (hTT : TX W B l) => registerAt_z B c l 0 0 rfl W hW hTT hx hl (by decide))
  have H1 := Lib.hid (fun W (hW : NA W) (hTT : TX W B l) => numberAt_z B c l 1 1 rfl W hW hTT hx hl (by decide))
  have V0 := Lib.hid (regAt_in l 0)
  have V1 := Lib.hid (numAt_in l 1)
  obtain ⟨x0, hx0⟩ : ∃ x, regAt l 0 = x := ⟨_, rfl⟩
  rw [hx0] at H0 V0 ⊢
  clear hx0
  obtain ⟨x1, hx1⟩ : ∃ x, numAt l 1 = x := ⟨_, rfl⟩
  rw [hx1] at H1 V1 ⊢
  clear hx1
  obtain ⟨n, hnl⟩ : ∃ n, l.length = n := ⟨_, rfl⟩
  rw [hnl] at H0 H1 ⊢
  obtain ⟨W2, hW2⟩ : ∃ W2, fillW w op = W2 := ⟨_, rfl⟩
  rw [hW2] at HBX HBW HNW HTW
  unfold fillW at hW2
  have HW2 := Lib.hid hW2
  clear hW2 hn hT hx hl hk hnl
  go_enter Tryz.func34, Tryz.ntmps34
  go_upto_region 2 with fail
  rw [HW2.out]
  clear HW2
  go_wp2_with (first
    | (go_at_call 36; refine (HK.out _ HNW.out).mono ?_; rintro e w3 ⟨rfl, hb⟩; have HBD := Lib.hid hb; have HND := Lib.hid (HNW.out.on hb); have HTD := Lib.hid (HTW.out.on hb); clear hb)
    | (go_at_call 74; (with_reducible refine (H0.out _ HND.out HTD.out).mono ?_); rintro e v0 ⟨rfl, hb⟩; have HND := Lib.hid (HND.out.on hb); have HTD := Lib.hid (HTD.out.on hb); have HBD := Lib.hid (HBD.out.trans (hb.mono HBD.out.size)); clear hb)
    | (go_at_call 75; (with_reducible refine (H1.out _ HND.out HTD.out).mono ?_); rintro e v1 ⟨rfl, hb⟩; have HND := Lib.hid (HND.out.on hb); have HTD := Lib.hid (HTD.out.on hb); have HBD := Lib.hid (HBD.out.trans (hb.mono HBD.out.size)); obtain ⟨b1, b2⟩ := HBX.out _ HBD.out; obtain ⟨⟨p0, p1, p2, p3, p4⟩, q0, q1, q2, q3, q4⟩ := box5 b1; obtain ⟨⟨r0, r1, r2, r3, r4⟩, s0, s1, s2, s3, s4⟩ := box5 b2; clear b1 b2; clear hb))
  have hfin := ((((((((HBX.out _ HBD.out).1.other (j := 1) (x := .int .i64 x0) (Nat.ne_of_lt (Nat.lt_succ_self w.heap.size))).other (j := 4) (x := .int .i64 x1) (Nat.ne_of_lt (Nat.lt_succ_self w.heap.size))).set 0 (.int .i64 op)).set 1 (.int .i64 x0)).set 2 (.int .i64 0)).set 3 (.int .i64 0)).set 4 (.int .i64 x1))
  refine bodyPost_ret (v := .agg #[.int .i64 op, .int .i64 x0, .int .i64 0, .int .i64 0, .int .i64 x1]) (fill_res _ w.heap.size _ _ _ _ _ _ rfl hfin) rfl ⟨rfl, ?_⟩
  repeat (with_reducible refine Below.setCell ?_ (by first | exact Nat.le_refl _ | exact Nat.le_succ _) _)
  exact HBW.out.trans (HBD.out.mono HBW.out.size)
set_option maxRecDepth 100000 in
set_option maxHeartbeats 2000000 in
theorem fill_8 (op : Int) (B c : Nat) (l : List (List UInt8)) (w : World) (hn : NA w) (hT : TX w B l) (hx : ∀ x ∈ l, x.length < 1000000) (hl : l.length < 1000000) (hk : kindA op = 8) :
    Calls Tryz.prog 34 #[.int .i64 op, .slice (some ⟨B, 0, none⟩) l.length c] w fun e w' => e = .returned (.agg #[.int .i64 op, .int .i64 (regAt l 0), .int .i64 (regAt l 1), .int .i64 0, .int .i64 0]) ∧ Below w.heap.size w w' := by
  have HK := Lib.hid (fun W (hW : NA W) => kind_any op W hW.nt)
  rw [kindA_eq, hk] at HK
  have HBX := Lib.hid (fun W hb => fill_boxes w W op hb)
  have HBW := Lib.hid (below_fill w op)
  have HNW := Lib.hid (hn.on (below_fill w op))
  have HTW := Lib.hid (hT.on (below_fill w op))
  have H0 := Lib.hid (fun W (hW : NA W) (hTT : TX W B l) => registerAt_z B c l 0 0 rfl W hW hTT hx hl (by decide))
  have H1 := Lib.hid (fun W (hW : NA W) (hTT : TX W B l) => registerAt_z B c l 1 1 rfl W hW hTT hx hl (by decide))
  have V0 := Lib.hid (regAt_in l 0)
  have V1 := Lib.hid (regAt_in l 1)
  obtain ⟨x0, hx0⟩ : ∃ x, regAt l 0 = x := ⟨_, rfl⟩
  rw [hx0] at H0 V0 ⊢
  clear hx0
  obtain ⟨x1, hx1⟩ : ∃ x, regAt l 1 = x := ⟨_, rfl⟩
  rw [hx1] at H1 V1 ⊢
  clear hx1
  obtain ⟨n, hnl⟩ : ∃ n, l.length = n := ⟨_, rfl⟩
  rw [hnl] at H0 H1 ⊢
  obtain ⟨W2, hW2⟩ : ∃ W2, fillW w op = W2 := ⟨_, rfl⟩
  rw [hW2] at HBX HBW HNW HTW
  unfold fillW at hW2
  have HW2 := Lib.hid hW2
  clear hW2 hn hT hx hl hk hnl
  go_enter Tryz.func34, Tryz.ntmps34
  go_upto_region 2 with fail
  rw [HW2.out]
  clear HW2
  go_wp2_with (first
    | (go_at_call 36; refine (HK.out _ HNW.out).mono ?_; rintro e w3 ⟨rfl, hb⟩; have HBD := Lib.hid hb; have HND := Lib.hid (HNW.out.on hb); have HTD := Lib.hid (HTW.out.on hb); clear hb)
    | (go_at_call 74; (with_reducible refine (H0.out _ HND.out HTD.out).mono ?_); rintro e v0 ⟨rfl, hb⟩; have HND := Lib.hid (HND.out.on hb); have HTD := Lib.hid (HTD.out.on hb); have HBD := Lib.hid (HBD.out.trans (hb.mono HBD.out.size)); clear hb)
    | (go_at_call 74; (with_reducible refine (H1.out _ HND.out HTD.out).mono ?_); rintro e v1 ⟨rfl, hb⟩; have HND := Lib.hid (HND.out.on hb); have HTD := Lib.hid (HTD.out.on hb); have HBD := Lib.hid (HBD.out.trans (hb.mono HBD.out.size)); obtain ⟨b1, b2⟩ := HBX.out _ HBD.out; obtain ⟨⟨p0, p1, p2, p3, p4⟩, q0, q1, q2, q3, q4⟩ := box5 b1; obtain ⟨⟨r0, r1, r2, r3, r4⟩, s0, s1, s2, s3, s4⟩ := box5 b2; clear b1 b2; clear hb))
  have hfin := ((((((((HBX.out _ HBD.out).1.other (j := 1) (x := .int .i64 x0) (Nat.ne_of_lt (Nat.lt_succ_self w.heap.size))).other (j := 2) (x := .int .i64 x1) (Nat.ne_of_lt (Nat.lt_succ_self w.heap.size))).set 0 (.int .i64 op)).set 1 (.int .i64 x0)).set 2 (.int .i64 x1)).set 3 (.int .i64 0)).set 4 (.int .i64 0))
  refine bodyPost_ret (v := .agg #[.int .i64 op, .int .i64 x0, .int .i64 x1, .int .i64 0, .int .i64 0]) (fill_res _ w.heap.size _ _ _ _ _ _ rfl hfin) rfl ⟨rfl, ?_⟩
  repeat (with_reducible refine Below.setCell ?_ (by first | exact Nat.le_refl _ | exact Nat.le_succ _) _)
  exact HBW.out.trans (HBD.out.mono HBW.out.size)
set_option maxRecDepth 100000 in
set_option maxHeartbeats 2000000 in
theorem fill_10 (op : Int) (B c : Nat) (l : List (List UInt8)) (w : World) (hn : NA w) (hT : TX w B l) (hx : ∀ x ∈ l, x.length < 1000000) (hl : l.length < 1000000) (hk : kindA op = 10) :
    Calls Tryz.prog 34 #[.int .i64 op, .slice (some ⟨B, 0, none⟩) l.length c] w fun e w' => e = .returned (.agg #[.int .i64 op, .int .i64 0, .int .i64 (regAt l 0), .int .i64 (regAt l 1), .int .i64 0]) ∧ Below w.heap.size w w' := by
  have HK := Lib.hid (fun W (hW : NA W) => kind_any op W hW.nt)
  rw [kindA_eq, hk] at HK
  have HBX := Lib.hid (fun W hb => fill_boxes w W op hb)
  have HBW := Lib.hid (below_fill w op)
  have HNW := Lib.hid (hn.on (below_fill w op))
  have HTW := Lib.hid (hT.on (below_fill w op))
  have H0 := Lib.hid (fun W (hW : NA W) (hTT : TX W B l) => registerAt_z B c l 0 0 rfl W hW hTT hx hl (by decide))
  have H1 := Lib.hid (fun W (hW : NA W) (hTT : TX W B l) => registerAt_z B c l 1 1 rfl W hW hTT hx hl (by decide))
  have V0 := Lib.hid (regAt_in l 0)
  have V1 := Lib.hid (regAt_in l 1)
  obtain ⟨x0, hx0⟩ : ∃ x, regAt l 0 = x := ⟨_, rfl⟩
  rw [hx0] at H0 V0 ⊢
  clear hx0
  obtain ⟨x1, hx1⟩ : ∃ x, regAt l 1 = x := ⟨_, rfl⟩
  rw [hx1] at H1 V1 ⊢
  clear hx1
  obtain ⟨n, hnl⟩ : ∃ n, l.length = n := ⟨_, rfl⟩
  rw [hnl] at H0 H1 ⊢
  obtain ⟨W2, hW2⟩ : ∃ W2, fillW w op = W2 := ⟨_, rfl⟩
  rw [hW2] at HBX HBW HNW HTW
  unfold fillW at hW2
  have HW2 := Lib.hid hW2
  clear hW2 hn hT hx hl hk hnl
  go_enter Tryz.func34, Tryz.ntmps34
  go_upto_region 2 with fail
  rw [HW2.out]
  clear HW2
  go_wp2_with (first
    | (go_at_call 36; refine (HK.out _ HNW.out).mono ?_; rintro e w3 ⟨rfl, hb⟩; have HBD := Lib.hid hb; have HND := Lib.hid (HNW.out.on hb); have HTD := Lib.hid (HTW.out.on hb); clear hb)
    | (go_at_call 74; (with_reducible refine (H0.out _ HND.out HTD.out).mono ?_); rintro e v0 ⟨rfl, hb⟩; have HND := Lib.hid (HND.out.on hb); have HTD := Lib.hid (HTD.out.on hb); have HBD := Lib.hid (HBD.out.trans (hb.mono HBD.out.size)); clear hb)
    | (go_at_call 74; (with_reducible refine (H1.out _ HND.out HTD.out).mono ?_); rintro e v1 ⟨rfl, hb⟩; have HND := Lib.hid (HND.out.on hb); have HTD := Lib.hid (HTD.out.on hb); have HBD := Lib.hid (HBD.out.trans (hb.mono HBD.out.size)); obtain ⟨b1, b2⟩ := HBX.out _ HBD.out; obtain ⟨⟨p0, p1, p2, p3, p4⟩, q0, q1, q2, q3, q4⟩ := box5 b1; obtain ⟨⟨r0, r1, r2, r3, r4⟩, s0, s1, s2, s3, s4⟩ := box5 b2; clear b1 b2; clear hb))
  have hfin := ((((((((HBX.out _ HBD.out).1.other (j := 2) (x := .int .i64 x0) (Nat.ne_of_lt (Nat.lt_succ_self w.heap.size))).other (j := 3) (x := .int .i64 x1) (Nat.ne_of_lt (Nat.lt_succ_self w.heap.size))).set 0 (.int .i64 op)).set 1 (.int .i64 0)).set 2 (.int .i64 x0)).set 3 (.int .i64 x1)).set 4 (.int .i64 0))
  refine bodyPost_ret (v := .agg #[.int .i64 op, .int .i64 0, .int .i64 x0, .int .i64 x1, .int .i64 0]) (fill_res _ w.heap.size _ _ _ _ _ _ rfl hfin) rfl ⟨rfl, ?_⟩
  repeat (with_reducible refine Below.setCell ?_ (by first | exact Nat.le_refl _ | exact Nat.le_succ _) _)
  exact HBW.out.trans (HBD.out.mono HBW.out.size)
set_option maxRecDepth 100000 in
set_option maxHeartbeats 2000000 in
theorem fill_0 (op : Int) (B c : Nat) (l : List (List UInt8)) (w : World) (hn : NA w) (hT : TX w B l) (hx : ∀ x ∈ l, x.length < 1000000) (hl : l.length < 1000000) (hk : kindA op = 0 ∨ kindA op = 9) :
    Calls Tryz.prog 34 #[.int .i64 op, .slice (some ⟨B, 0, none⟩) l.length c] w fun e w' => e = .returned (.agg #[.int .i64 op, .int .i64 0, .int .i64 0, .int .i64 0, .int .i64 0]) ∧ Below w.heap.size w w' := by
  rcases hk with hk | hk
  all_goals
    have HK := Lib.hid (fun W (hW : NA W) => kind_any op W hW.nt)
    rw [kindA_eq, hk] at HK
    have HBX := Lib.hid (fun W hb => fill_boxes w W op hb)
    have HBW := Lib.hid (below_fill w op)
    have HNW := Lib.hid (hn.on (below_fill w op))
    have HTW := Lib.hid (hT.on (below_fill w op))
    obtain ⟨n, hnl⟩ : ∃ n, l.length = n := ⟨_, rfl⟩
    rw [hnl]
    obtain ⟨W2, hW2⟩ : ∃ W2, fillW w op = W2 := ⟨_, rfl⟩
    rw [hW2] at HBX HBW HNW HTW
    unfold fillW at hW2
    have HW2 := Lib.hid hW2
    clear hW2 hn hT hx hl hk hnl
    go_enter Tryz.func34, Tryz.ntmps34
    go_upto_region 2 with fail
    rw [HW2.out]
    clear HW2
    go_wp2_with (first
      | (go_at_call 36; refine (HK.out _ HNW.out).mono ?_; rintro e w3 ⟨rfl, hb⟩; have HBD := Lib.hid hb; have HND := Lib.hid (HNW.out.on hb); have HTD := Lib.hid (HTW.out.on hb); obtain ⟨b1, b2⟩ := HBX.out _ HBD.out; obtain ⟨⟨p0, p1, p2, p3, p4⟩, q0, q1, q2, q3, q4⟩ := box5 b1; obtain ⟨⟨r0, r1, r2, r3, r4⟩, s0, s1, s2, s3, s4⟩ := box5 b2; clear b1 b2; clear hb))
    have hfin := ((((((HBX.out _ HBD.out).1.set 0 (.int .i64 op)).set 1 (.int .i64 0)).set 2 (.int .i64 0)).set 3 (.int .i64 0)).set 4 (.int .i64 0))
    refine bodyPost_ret (v := .agg #[.int .i64 op, .int .i64 0, .int .i64 0, .int .i64 0, .int .i64 0]) (fill_res _ w.heap.size _ _ _ _ _ _ rfl hfin) rfl ⟨rfl, ?_⟩
    repeat (with_reducible refine Below.setCell ?_ (by first | exact Nat.le_refl _ | exact Nat.le_succ _) _)
    exact HBW.out.trans (HBD.out.mono HBW.out.size)
end Go.Proofs.YtdpmihlmfephiaaGreatDoor
