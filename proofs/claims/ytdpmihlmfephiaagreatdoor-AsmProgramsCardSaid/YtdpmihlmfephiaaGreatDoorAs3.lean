/- Merged: AsQ AsK AsL. -/
import Derived.Test.YtdpmihlmfephiaaGreatDoorTmK
import Derived.RangeFuncBound
import Derived.RangeFuncCalls
import Derived.Test.YtdpmihlmfephiaaGreatDoorAs2
namespace Go.Proofs.YtdpmihlmfephiaaGreatDoor
set_option linter.unusedVariables false
set_option linter.unusedSimpArgs false
open Go.Joins Go.ChangeShapes Go.WideShapes Go.ChangeAt Go.RowKit Go.Deep

theorem BoxN.grown {W W' : World} {B : Nat} {cs : Array Value} {row : Option Nat} (h : BoxN W B cs) (hg : W.grownBy W' row) (hr : row ≠ some B) : BoxN W' B cs := by
  have hl := h.lt
  obtain ⟨t, h⟩ := h
  exact ⟨t, (hg.block B hl (fun e => hr e.symm)).trans h⟩
theorem BoxN.other {W : World} {B B' j : Nat} {cs : Array Value} {x : Value} (h : BoxN W B cs) (hne : B ≠ B') : BoxN (W.setCell ⟨B', j, none⟩ x) B cs := by
  obtain ⟨t, h⟩ := h
  exact ⟨t, (Below.heap_setCell _ _ _ _ hne).trans h⟩
theorem BoxN.drew {W : World} {B : Nat} {cs : Array Value} (h : BoxN W B cs) : BoxN W.drew B cs := h
theorem BoxN.kept {W W' : World} {B : Nat} {cs : Array Value} {row : Option Nat} (h : BoxN W B cs) (hg : W.grownBy W' row) (hr : ∀ r, row = some r → ∃ o : Go.Obj, W.heap[r]? = some o ∧ o.isCells = false) : BoxN W' B cs :=
  h.grown hg fun e => by
    obtain ⟨o, ho, hc⟩ := hr B e
    obtain ⟨t, h⟩ := h
    rw [h] at ho
    cases ho
    cases hc
end Go.Proofs.YtdpmihlmfephiaaGreatDoor

namespace Go.Proofs.YtdpmihlmfephiaaGreatDoor
set_option linter.unusedVariables false
set_option linter.unusedSimpArgs false
open Go.Joins Go.ChangeShapes Go.WideShapes Go.ChangeAt Go.RowKit Go.Deep

/-- two new boxes: the result, and the instruction that is filled -/
def fillW (w : World) (op : Int) : World := (w.alloc (.cells #[.int .i64 0, .int .i64 0, .int .i64 0, .int .i64 0, .int .i64 0] 23)).alloc (.cells #[.int .i64 op, .int .i64 0, .int .i64 0, .int .i64 0, .int .i64 0] 23)
theorem below_fill (w : World) (op : Int) : Below w.heap.size w (fillW w op) := bAlloc (bAlloc (Below.refl _ _) _) _
theorem fill_boxes (w W : World) (op : Int) (hb : Below (fillW w op).heap.size (fillW w op) W) : BoxN W w.heap.size #[.int .i64 0, .int .i64 0, .int .i64 0, .int .i64 0, .int .i64 0] ∧ BoxN W (w.heap.size + 1) #[.int .i64 op, .int .i64 0, .int .i64 0, .int .i64 0, .int .i64 0] := by
  have hz : (fillW w op).heap.size = w.heap.size + 2 := by unfold fillW; simp
  rw [hz] at hb
  have h1 : BoxN (fillW w op) w.heap.size #[.int .i64 0, .int .i64 0, .int .i64 0, .int .i64 0, .int .i64 0] := boxN_alloc (BoxN.new w _ _) _
  have h2 : BoxN (fillW w op) (w.heap.size + 1) #[.int .i64 op, .int .i64 0, .int .i64 0, .int .i64 0, .int .i64 0] := by
    have := BoxN.new (w.alloc (.cells #[.int .i64 0, .int .i64 0, .int .i64 0, .int .i64 0, .int .i64 0] 23)) #[.int .i64 op, .int .i64 0, .int .i64 0, .int .i64 0, .int .i64 0] 23
    rw [World.size_alloc] at this
    exact this
  exact ⟨h1.below hb (by omega), h2.below hb (by omega)⟩
theorem box5 {W : World} {B : Nat} {a b c d e : Value} (h : BoxN W B #[a, b, c, d, e]) : (W.cell? ⟨B, 0, none⟩ = some a ∧ W.cell? ⟨B, 1, none⟩ = some b ∧ W.cell? ⟨B, 2, none⟩ = some c ∧ W.cell? ⟨B, 3, none⟩ = some d ∧ W.cell? ⟨B, 4, none⟩ = some e) ∧ (W.frozen? ⟨B, 0, none⟩ = false ∧ W.frozen? ⟨B, 1, none⟩ = false ∧ W.frozen? ⟨B, 2, none⟩ = false ∧ W.frozen? ⟨B, 3, none⟩ = false ∧ W.frozen? ⟨B, 4, none⟩ = false) :=
  ⟨⟨h.cell 0, h.cell 1, h.cell 2, h.cell 3, h.cell 4⟩, h.frozen 0, h.frozen 1, h.frozen 2, h.frozen 3, h.frozen 4⟩
theorem registerAt_z (B c : Nat) (xs : List (List UInt8)) (i : Nat) (z : Int) (hz : z = (i : Int)) (w : World) (hn : NA w) (h : TX w B xs) (hx : ∀ x ∈ xs, x.length < 1000000) (hl : xs.length < 1000000) (hi : i < 1000) :
    Calls Tryz.prog 74 #[.slice (some ⟨B, 0, none⟩) xs.length c, .int .i64 z] w fun e w' => e = .returned (.int .i64 (regAt xs i)) ∧ Below w.heap.size w w' := by
  subst hz; exact registerAt_any B c xs i w hn h hx hl hi
theorem numberAt_z (B c : Nat) (xs : List (List UInt8)) (i : Nat) (z : Int) (hz : z = (i : Int)) (w : World) (hn : NA w) (h : TX w B xs) (hx : ∀ x ∈ xs, x.length < 1000000) (hl : xs.length < 1000000) (hi : i < 1000) :
    Calls Tryz.prog 75 #[.slice (some ⟨B, 0, none⟩) xs.length c, .int .i64 z] w fun e w' => e = .returned (.int .i64 (numAt xs i)) ∧ Below w.heap.size w w' := by
  subst hz; exact numberAt_any B c xs i w hn h hx hl hi
theorem fill_res (W : World) (B : Nat) (a b c d e : Value) (tmps : Array Value) (ht : tmps[4]? = some (.pointer (some ⟨B, 0, none⟩))) (hb : BoxN W B #[a, b, c, d, e]) : (results Tryz.f34 tmps).run Tryz.prog W = .ok (.agg #[a, b, c, d, e]) W := by
  obtain ⟨⟨k0, k1, k2, k3, k4⟩, -⟩ := box5 hb
  simp [results, Tryz.results34, go_sem, ht, k0, k1, k2, k3, k4]
theorem numB_i64 (s : List UInt8) : I64 (numB s) := by have := numB_in s; exact ⟨by omega, by omega⟩
theorem regAt_in (l : List (List UInt8)) (i : Nat) : I64 (regAt l i) := by
  unfold regAt
  split
  · exact numB_i64 _
  · exact ⟨by decide, by decide⟩
theorem numAt_in (l : List (List UInt8)) (i : Nat) : I64 (numAt l i) := by
  unfold numAt
  split
  · exact numB_i64 _
  · exact ⟨by decide, by decide⟩
set_option maxRecDepth 100000 in
set_option maxHeartbeats 2000000 in
theorem fill_1 (op : Int) (B c : Nat) (l : List (List UInt8)) (w : World) (hn : NA w) (hT : TX w B l) (hx : ∀ x ∈ l, x.length < 1000000) (hl : l.length < 1000000) (hk : kindA op = 1) :
    Calls Tryz.prog 34 #[.int .i64 op, .slice (some ⟨B, 0, none⟩) l.length c] w fun e w' => e = .returned (.agg #[.int .i64 op, .int .i64 (regAt l 0), .int .i64 (regAt l 1), .int .i64 (regAt l 2), .int .i64 0]) ∧ Below w.heap.size w w' := by
  have HK := Lib.hid (fun W (hW : NA W) => kind_any op W hW.nt)
  rw [kindA_eq, hk] at HK
  have HBX := Lib.hid (fun W hb => fill_boxes w W op hb)
  have HBW := Lib.hid (below_fill w op)
  have HNW := Lib.hid (hn.on (below_fill w op))
  have HTW := Lib.hid (hT.on (below_fill w op))
  have H0 := Lib.hid (fun W (hW : NA W) (hTT : TX W B l) => registerAt_z B c l 0 0 rfl W hW hTT hx hl (by decide))
  have H1 := Lib.hid (fun W (hW : NA W) (hTT : TX W B l) => registerAt_z B c l 1 1 rfl W hW hTT hx hl (by decide))
  have H2 := Lib.hid (fun W (hW : NA W) (hTT : TX W B l) => registerAt_z B c l 2 2 rfl W hW hTT hx hl (by decide))
  have V0 := Lib.hid (regAt_in l 0)
  have V1 := Lib.hid (regAt_in l 1)
  have V2 := Lib.hid (regAt_in l 2)
  obtain ⟨x0, hx0⟩ : ∃ x, regAt l 0 = x := ⟨_, rfl⟩
  rw [hx0] at H0 V0 ⊢
  clear hx0
  obtain ⟨x1, hx1⟩ : ∃ x, regAt l 1 = x := ⟨_, rfl⟩
  rw [hx1] at H1 V1 ⊢
  clear hx1
  obtain ⟨x2, hx2⟩ : ∃ x, regAt l 2 = x := ⟨_, rfl⟩
  rw [hx2] at H2 V2 ⊢
  clear hx2
  obtain ⟨n, hnl⟩ : ∃ n, l.length = n := ⟨_, rfl⟩
  rw [hnl] at H0 H1 H2 ⊢
  obtain ⟨W2, hW2⟩ : ∃ W2, fillW w op = W2 := ⟨_, rfl⟩
  rw [hW2] at HBX HBW HNW HTW
  unfold fillW at hW2
  have HW2 := Lib.hid hW2
  clear hW2 hn hT hx hl hk hnl
  go_enter Tryz.func34, Tryz.ntmps34
  go_upto_region 2 with fail
  rw [HW2.out]
  clear HW2
  go_wp2_with (first
    | (go_at_call 36; refine (HK.out _ HNW.out).mono ?_; rintro e w3 ⟨rfl, hb⟩; have HBD := Lib.hid hb; have HND := Lib.hid (HNW.out.on hb); have HTD := Lib.hid (HTW.out.on hb); clear hb)
    | (go_at_call 74; (with_reducible refine (H0.out _ HND.out HTD.out).mono ?_); rintro e v0 ⟨rfl, hb⟩; have HND := Lib.hid (HND.out.on hb); have HTD := Lib.hid (HTD.out.on hb); have HBD := Lib.hid (HBD.out.trans (hb.mono HBD.out.size)); clear hb)
    | (go_at_call 74; (with_reducible refine (H1.out _ HND.out HTD.out).mono ?_); rintro e v1 ⟨rfl, hb⟩; have HND := Lib.hid (HND.out.on hb); have HTD := Lib.hid (HTD.out.on hb); have HBD := Lib.hid (HBD.out.trans (hb.mono HBD.out.size)); clear hb)
    | (go_at_call 74; (with_reducible refine (H2.out _ HND.out HTD.out).mono ?_); rintro e v2 ⟨rfl, hb⟩; have HND := Lib.hid (HND.out.on hb); have HTD := Lib.hid (HTD.out.on hb); have HBD := Lib.hid (HBD.out.trans (hb.mono HBD.out.size)); obtain ⟨b1, b2⟩ := HBX.out _ HBD.out; obtain ⟨⟨p0, p1, p2, p3, p4⟩, q0, q1, q2, q3, q4⟩ := box5 b1; obtain ⟨⟨r0, r1, r2, r3, r4⟩, s0, s1, s2, s3, s4⟩ := box5 b2; clear b1 b2; clear hb))
  have hfin := (((((((((HBX.out _ HBD.out).1.other (j := 1) (x := .int .i64 x0) (Nat.ne_of_lt (Nat.lt_succ_self w.heap.size))).other (j := 2) (x := .int .i64 x1) (Nat.ne_of_lt (Nat.lt_succ_self w.heap.size))).other (j := 3) (x := .int .i64 x2) (Nat.ne_of_lt (Nat.lt_succ_self w.heap.size))).set 0 (.int .i64 op)).set 1 (.int .i64 x0)).set 2 (.int .i64 x1)).set 3 (.int .i64 x2)).set 4 (.int .i64 0))
  refine bodyPost_ret (v := .agg #[.int .i64 op, .int .i64 x0, .int .i64 x1, .int .i64 x2, .int .i64 0]) (fill_res _ w.heap.size _ _ _ _ _ _ rfl hfin) rfl ⟨rfl, ?_⟩
  repeat (with_reducible refine Below.setCell ?_ (by first | exact Nat.le_refl _ | exact Nat.le_succ _) _)
  exact HBW.out.trans (HBD.out.mono HBW.out.size)
set_option maxRecDepth 100000 in
set_option maxHeartbeats 2000000 in
theorem fill_2 (op : Int) (B c : Nat) (l : List (List UInt8)) (w : World) (hn : NA w) (hT : TX w B l) (hx : ∀ x ∈ l, x.length < 1000000) (hl : l.length < 1000000) (hk : kindA op = 2) :
    Calls Tryz.prog 34 #[.int .i64 op, .slice (some ⟨B, 0, none⟩) l.length c] w fun e w' => e = .returned (.agg #[.int .i64 op, .int .i64 (regAt l 0), .int .i64 (regAt l 1), .int .i64 0, .int .i64 (numAt l 2)]) ∧ Below w.heap.size w w' := by
  have HK := Lib.hid (fun W (hW : NA W) => kind_any op W hW.nt)
  rw [kindA_eq, hk] at HK
  have HBX := Lib.hid (fun W hb => fill_boxes w W op hb)
  have HBW := Lib.hid (below_fill w op)
  have HNW := Lib.hid (hn.on (below_fill w op))
  have HTW := Lib.hid (hT.on (below_fill w op))
  have H0 := Lib.hid (fun W (hW : NA W) (hTT : TX W B l) => registerAt_z B c l 0 0 rfl W hW hTT hx hl (by decide))
  have H1 := Lib.hid (fun W (hW : NA W) (hTT : TX W B l) => registerAt_z B c l 1 1 rfl W hW hTT hx hl (by decide))
  have H2 := Lib.hid (fun W (hW : NA W) (hTT : TX W B l) => numberAt_z B c l 2 2 rfl W hW hTT hx hl (by decide))
  have V0 := Lib.hid (regAt_in l 0)
  have V1 := Lib.hid (regAt_in l 1)
  have V2 := Lib.hid (numAt_in l 2)
  obtain ⟨x0, hx0⟩ : ∃ x, regAt l 0 = x := ⟨_, rfl⟩
  rw [hx0] at H0 V0 ⊢
  clear hx0
  obtain ⟨x1, hx1⟩ : ∃ x, regAt l 1 = x := ⟨_, rfl⟩
  rw [hx1] at H1 V1 ⊢
  clear hx1
  obtain ⟨x2, hx2⟩ : ∃ x, numAt l 2 = x := ⟨_, rfl⟩
  rw [hx2] at H2 V2 ⊢
  clear hx2
  obtain ⟨n, hnl⟩ : ∃ n, l.length = n := ⟨_, rfl⟩
  rw [hnl] at H0 H1 H2 ⊢
  obtain ⟨W2, hW2⟩ : ∃ W2, fillW w op = W2 := ⟨_, rfl⟩
  rw [hW2] at HBX HBW HNW HTW
  unfold fillW at hW2
  have HW2 := Lib.hid hW2
  clear hW2 hn hT hx hl hk hnl
  go_enter Tryz.func34, Tryz.ntmps34
  go_upto_region 2 with fail
  rw [HW2.out]
  clear HW2
  go_wp2_with (first
    | (go_at_call 36; refine (HK.out _ HNW.out).mono ?_; rintro e w3 ⟨rfl, hb⟩; have HBD := Lib.hid hb; have HND := Lib.hid (HNW.out.on hb); have HTD := Lib.hid (HTW.out.on hb); clear hb)
    | (go_at_call 74; (with_reducible refine (H0.out _ HND.out HTD.out).mono ?_); rintro e v0 ⟨rfl, hb⟩; have HND := Lib.hid (HND.out.on hb); have HTD := Lib.hid (HTD.out.on hb); have HBD := Lib.hid (HBD.out.trans (hb.mono HBD.out.size)); clear hb)
    | (go_at_call 74; (with_reducible refine (H1.out _ HND.out HTD.out).mono ?_); rintro e v1 ⟨rfl, hb⟩; have HND := Lib.hid (HND.out.on hb); have HTD := Lib.hid (HTD.out.on hb); have HBD := Lib.hid (HBD.out.trans (hb.mono HBD.out.size)); clear hb)
    | (go_at_call 75; (with_reducible refine (H2.out _ HND.out HTD.out).mono ?_); rintro e v2 ⟨rfl, hb⟩; have HND := Lib.hid (HND.out.on hb); have HTD := Lib.hid (HTD.out.on hb); have HBD := Lib.hid (HBD.out.trans (hb.mono HBD.out.size)); obtain ⟨b1, b2⟩ := HBX.out _ HBD.out; obtain ⟨⟨p0, p1, p2, p3, p4⟩, q0, q1, q2, q3, q4⟩ := box5 b1; obtain ⟨⟨r0, r1, r2, r3, r4⟩, s0, s1, s2, s3, s4⟩ := box5 b2; clear b1 b2; clear hb))
  have hfin := (((((((((HBX.out _ HBD.out).1.other (j := 1) (x := .int .i64 x0) (Nat.ne_of_lt (Nat.lt_succ_self w.heap.size))).other (j := 2) (x := .int .i64 x1) (Nat.ne_of_lt (Nat.lt_succ_self w.heap.size))).other (j := 4) (x := .int .i64 x2) (Nat.ne_of_lt (Nat.lt_succ_self w.heap.size))).set 0 (.int .i64 op)).set 1 (.int .i64 x0)).set 2 (.int .i64 x1)).set 3 (.int .i64 0)).set 4 (.int .i64 x2))
  refine bodyPost_ret (v := .agg #[.int .i64 op, .int .i64 x0, .int .i64 x1, .int .i64 0, .int .i64 x2]) (fill_res _ w.heap.size _ _ _ _ _ _ rfl hfin) rfl ⟨rfl, ?_⟩
  repeat (with_reducible refine Below.setCell ?_ (by first | exact Nat.le_refl _ | exact Nat.le_succ _) _)
  exact HBW.out.trans (HBD.out.mono HBW.out.size)
set_option maxRecDepth 100000 in
set_option maxHeartbeats 2000000 in
theorem fill_3 (op : Int) (B c : Nat) (l : List (List UInt8)) (w : World) (hn : NA w) (hT : TX w B l) (hx : ∀ x ∈ l, x.length < 1000000) (hl : l.length < 1000000) (hk : kindA op = 3) :
    Calls Tryz.prog 34 #[.int .i64 op, .slice (some ⟨B, 0, none⟩) l.length c] w fun e w' => e = .returned (.agg #[.int .i64 op, .int .i64 (regAt l 0), .int .i64 (regAt l 2), .int .i64 0, .int .i64 (numAt l 1)]) ∧ Below w.heap.size w w' := by
  have HK := Lib.hid (fun W (hW : NA W) => kind_any op W hW.nt)
  rw [kindA_eq, hk] at HK
  have HBX := Lib.hid (fun W hb => fill_boxes w W op hb)
  have HBW := Lib.hid (below_fill w op)
  have HNW := Lib.hid (hn.on (below_fill w op))
  have HTW := Lib.hid (hT.on (below_fill w op))
  have H0 := Lib.hid (fun W (hW : NA W) (hTT : TX W B l) => registerAt_z B c l 0 0 rfl W hW hTT hx hl (by decide))
  have H1 := Lib.hid (fun W (hW : NA W) (hTT : TX W B l) => numberAt_z B c l 1 1 rfl W hW hTT hx hl (by decide))
  have H2 := Lib.hid (fun W (hW : NA W) (hTT : TX W B l) => registerAt_z B c l 2 2 rfl W hW hTT hx hl (by decide))
  have V0 := Lib.hid (regAt_in l 0)
  have V1 := Lib.hid (numAt_in l 1)
  have V2 := Lib.hid (regAt_in l 2)
  obtain ⟨x0, hx0⟩ : ∃ x, regAt l 0 = x := ⟨_, rfl⟩
  rw [hx0] at H0 V0 ⊢
  clear hx0
  obtain ⟨x1, hx1⟩ : ∃ x, numAt l 1 = x := ⟨_, rfl⟩
  rw [hx1] at H1 V1 ⊢
  clear hx1
  obtain ⟨x2, hx2⟩ : ∃ x, regAt l 2 = x := ⟨_, rfl⟩
  rw [hx2] at H2 V2 ⊢
  clear hx2
  obtain ⟨n, hnl⟩ : ∃ n, l.length = n := ⟨_, rfl⟩
  rw [hnl] at H0 H1 H2 ⊢
  obtain ⟨W2, hW2⟩ : ∃ W2, fillW w op = W2 := ⟨_, rfl⟩
  rw [hW2] at HBX HBW HNW HTW
  unfold fillW at hW2
  have HW2 := Lib.hid hW2
  clear hW2 hn hT hx hl hk hnl
  go_enter Tryz.func34, Tryz.ntmps34
  go_upto_region 2 with fail
  rw [HW2.out]
  clear HW2
  go_wp2_with (first
    | (go_at_call 36; refine (HK.out _ HNW.out).mono ?_; rintro e w3 ⟨rfl, hb⟩; have HBD := Lib.hid hb; have HND := Lib.hid (HNW.out.on hb); have HTD := Lib.hid (HTW.out.on hb); clear hb)
    | (go_at_call 74; (with_reducible refine (H0.out _ HND.out HTD.out).mono ?_); rintro e v0 ⟨rfl, hb⟩; have HND := Lib.hid (HND.out.on hb); have HTD := Lib.hid (HTD.out.on hb); have HBD := Lib.hid (HBD.out.trans (hb.mono HBD.out.size)); clear hb)
    | (go_at_call 75; (with_reducible refine (H1.out _ HND.out HTD.out).mono ?_); rintro e v1 ⟨rfl, hb⟩; have HND := Lib.hid (HND.out.on hb); have HTD := Lib.hid (HTD.out.on hb); have HBD := Lib.hid (HBD.out.trans (hb.mono HBD.out.size)); clear hb)
    | (go_at_call 74; (with_reducible refine (H2.out _ HND.out HTD.out).mono ?_); rintro e v2 ⟨rfl, hb⟩; have HND := Lib.hid (HND.out.on hb); have HTD := Lib.hid (HTD.out.on hb); have HBD := Lib.hid (HBD.out.trans (hb.mono HBD.out.size)); obtain ⟨b1, b2⟩ := HBX.out _ HBD.out; obtain ⟨⟨p0, p1, p2, p3, p4⟩, q0, q1, q2, q3, q4⟩ := box5 b1; obtain ⟨⟨r0, r1, r2, r3, r4⟩, s0, s1, s2, s3, s4⟩ := box5 b2; clear b1 b2; clear hb))
  have hfin := (((((((((HBX.out _ HBD.out).1.other (j := 1) (x := .int .i64 x0) (Nat.ne_of_lt (Nat.lt_succ_self w.heap.size))).other (j := 4) (x := .int .i64 x1) (Nat.ne_of_lt (Nat.lt_succ_self w.heap.size))).other (j := 2) (x := .int .i64 x2) (Nat.ne_of_lt (Nat.lt_succ_self w.heap.size))).set 0 (.int .i64 op)).set 1 (.int .i64 x0)).set 2 (.int .i64 x2)).set 3 (.int .i64 0)).set 4 (.int .i64 x1))
  refine bodyPost_ret (v := .agg #[.int .i64 op, .int .i64 x0, .int .i64 x2, .int .i64 0, .int .i64 x1]) (fill_res _ w.heap.size _ _ _ _ _ _ rfl hfin) rfl ⟨rfl, ?_⟩
  repeat (with_reducible refine Below.setCell ?_ (by first | exact Nat.le_refl _ | exact Nat.le_succ _) _)
  exact HBW.out.trans (HBD.out.mono HBW.out.size)
set_option maxRecDepth 100000 in
set_option maxHeartbeats 2000000 in
theorem fill_4 (op : Int) (B c : Nat) (l : List (List UInt8)) (w : World) (hn : NA w) (hT : TX w B l) (hx : ∀ x ∈ l, x.length < 1000000) (hl : l.length < 1000000) (hk : kindA op = 4) :
    Calls Tryz.prog 34 #[.int .i64 op, .slice (some ⟨B, 0, none⟩) l.length c] w fun e w' => e = .returned (.agg #[.int .i64 op, .int .i64 0, .int .i64 (regAt l 2), .int .i64 (regAt l 0), .int .i64 (numAt l 1)]) ∧ Below w.heap.size w w' := by
  have HK := Lib.hid (fun W (hW : NA W) => kind_any op W hW.nt)
  rw [kindA_eq, hk] at HK
  have HBX := Lib.hid (fun W hb => fill_boxes w W op hb)
  have HBW := Lib.hid (below_fill w op)
  have HNW := Lib.hid (hn.on (below_fill w op))
  have HTW := Lib.hid (hT.on (below_fill w op))
  have H0 := Lib.hid (fun W (hW : NA W) (hTT : TX W B l) => registerAt_z B c l 0 0 rfl W hW hTT hx hl (by decide))
  have H1 := Lib.hid (fun W (hW : NA W) (hTT : TX W B l) => numberAt_z B c l 1 1 rfl W hW hTT hx hl (by decide))
  have H2 := Lib.hid (fun W (hW : NA W) (hTT : TX W B l) => registerAt_z B c l 2 2 rfl W hW hTT hx hl (by decide))
  have V0 := Lib.hid (regAt_in l 0)
  have V1 := Lib.hid (numAt_in l 1)
  have V2 := Lib.hid (regAt_in l 2)
  obtain ⟨x0, hx0⟩ : ∃ x, regAt l 0 = x := ⟨_, rfl⟩
  rw [hx0] at H0 V0 ⊢
  clear hx0
  obtain ⟨x1, hx1⟩ : ∃ x, numAt l 1 = x := ⟨_, rfl⟩
  rw [hx1] at H1 V1 ⊢
  clear hx1
  obtain ⟨x2, hx2⟩ : ∃ x, regAt l 2 = x := ⟨_, rfl⟩
  rw [hx2] at H2 V2 ⊢
  clear hx2
  obtain ⟨n, hnl⟩ : ∃ n, l.length = n := ⟨_, rfl⟩
  rw [hnl] at H0 H1 H2 ⊢
  obtain ⟨W2, hW2⟩ : ∃ W2, fillW w op = W2 := ⟨_, rfl⟩
  rw [hW2] at HBX HBW HNW HTW
  unfold fillW at hW2
  have HW2 := Lib.hid hW2
  clear hW2 hn hT hx hl hk hnl
  go_enter Tryz.func34, Tryz.ntmps34
  go_upto_region 2 with fail
  rw [HW2.out]
  clear HW2
  go_wp2_with (first
    | (go_at_call 36; refine (HK.out _ HNW.out).mono ?_; rintro e w3 ⟨rfl, hb⟩; have HBD := Lib.hid hb; have HND := Lib.hid (HNW.out.on hb); have HTD := Lib.hid (HTW.out.on hb); clear hb)
    | (go_at_call 74; (with_reducible refine (H0.out _ HND.out HTD.out).mono ?_); rintro e v0 ⟨rfl, hb⟩; have HND := Lib.hid (HND.out.on hb); have HTD := Lib.hid (HTD.out.on hb); have HBD := Lib.hid (HBD.out.trans (hb.mono HBD.out.size)); clear hb)
    | (go_at_call 75; (with_reducible refine (H1.out _ HND.out HTD.out).mono ?_); rintro e v1 ⟨rfl, hb⟩; have HND := Lib.hid (HND.out.on hb); have HTD := Lib.hid (HTD.out.on hb); have HBD := Lib.hid (HBD.out.trans (hb.mono HBD.out.size)); clear hb)
    | (go_at_call 74; (with_reducible refine (H2.out _ HND.out HTD.out).mono ?_); rintro e v2 ⟨rfl, hb⟩; have HND := Lib.hid (HND.out.on hb); have HTD := Lib.hid (HTD.out.on hb); have HBD := Lib.hid (HBD.out.trans (hb.mono HBD.out.size)); obtain ⟨b1, b2⟩ := HBX.out _ HBD.out; obtain ⟨⟨p0, p1, p2, p3, p4⟩, q0, q1, q2, q3, q4⟩ := box5 b1; obtain ⟨⟨r0, r1, r2, r3, r4⟩, s0, s1, s2, s3, s4⟩ := box5 b2; clear b1 b2; clear hb))
  have hfin := (((((((((HBX.out _ HBD.out).1.other (j := 3) (x := .int .i64 x0) (Nat.ne_of_lt (Nat.lt_succ_self w.heap.size))).other (j := 4) (x := .int .i64 x1) (Nat.ne_of_lt (Nat.lt_succ_self w.heap.size))).other (j := 2) (x := .int .i64 x2) (Nat.ne_of_lt (Nat.lt_succ_self w.heap.size))).set 0 (.int .i64 op)).set 1 (.int .i64 0)).set 2 (.int .i64 x2)).set 3 (.int .i64 x0)).set 4 (.int .i64 x1))
  refine bodyPost_ret (v := .agg #[.int .i64 op, .int .i64 0, .int .i64 x2, .int .i64 x0, .int .i64 x1]) (fill_res _ w.heap.size _ _ _ _ _ _ rfl hfin) rfl ⟨rfl, ?_⟩
  repeat (with_reducible refine Below.setCell ?_ (by first | exact Nat.le_refl _ | exact Nat.le_succ _) _)
  exact HBW.out.trans (HBD.out.mono HBW.out.size)
set_option maxRecDepth 100000 in
set_option maxHeartbeats 2000000 in
theorem fill_5 (op : Int) (B c : Nat) (l : List (List UInt8)) (w : World) (hn : NA w) (hT : TX w B l) (hx : ∀ x ∈ l, x.length < 1000000) (hl : l.length < 1000000) (hk : kindA op = 5) :
    Calls Tryz.prog 34 #[.int .i64 op, .slice (some ⟨B, 0, none⟩) l.length c] w fun e w' => e = .returned (.agg #[.int .i64 op, .int .i64 0, .int .i64 (regAt l 0), .int .i64 (regAt l 1), .int .i64 (numAt l 2)]) ∧ Below w.heap.size w w' := by
  have HK := Lib.hid (fun W (hW : NA W) => kind_any op W hW.nt)
  rw [kindA_eq, hk] at HK
  have HBX := Lib.hid (fun W hb => fill_boxes w W op hb)
  have HBW := Lib.hid (below_fill w op)
  have HNW := Lib.hid (hn.on (below_fill w op))
  have HTW := Lib.hid (hT.on (below_fill w op))
  have H0 := Lib.hid (fun W (hW : NA W) (hTT : TX W B l) => registerAt_z B c l 0 0 rfl W hW hTT hx hl (by decide))
  have H1 := Lib.hid (fun W (hW : NA W) (hTT : TX W B l) => registerAt_z B c l 1 1 rfl W hW hTT hx hl (by decide))
  have H2 := Lib.hid (fun W (hW : NA W) (hTT : TX W B l) => numberAt_z B c l 2 2 rfl W hW hTT hx hl (by decide))
  have V0 := Lib.hid (regAt_in l 0)
  have V1 := Lib.hid (regAt_in l 1)
  have V2 := Lib.hid (numAt_in l 2)
  obtain ⟨x0, hx0⟩ : ∃ x, regAt l 0 = x := ⟨_, rfl⟩
  rw [hx0] at H0 V0 ⊢
  clear hx0
  obtain ⟨x1, hx1⟩ : ∃ x, regAt l 1 = x := ⟨_, rfl⟩
  rw [hx1] at H1 V1 ⊢
  clear hx1
  obtain ⟨x2, hx2⟩ : ∃ x, numAt l 2 = x := ⟨_, rfl⟩
  rw [hx2] at H2 V2 ⊢
  clear hx2
  obtain ⟨n, hnl⟩ : ∃ n, l.length = n := ⟨_, rfl⟩
  rw [hnl] at H0 H1 H2 ⊢
  obtain ⟨W2, hW2⟩ : ∃ W2, fillW w op = W2 := ⟨_, rfl⟩
  rw [hW2] at HBX HBW HNW HTW
  unfold fillW at hW2
  have HW2 := Lib.hid hW2
  clear hW2 hn hT hx hl hk hnl
  go_enter Tryz.func34, Tryz.ntmps34
  go_upto_region 2 with fail
  rw [HW2.out]
  clear HW2
  go_wp2_with (first
    | (go_at_call 36; refine (HK.out _ HNW.out).mono ?_; rintro e w3 ⟨rfl, hb⟩; have HBD := Lib.hid hb; have HND := Lib.hid (HNW.out.on hb); have HTD := Lib.hid (HTW.out.on hb); clear hb)
    | (go_at_call 74; (with_reducible refine (H0.out _ HND.out HTD.out).mono ?_); rintro e v0 ⟨rfl, hb⟩; have HND := Lib.hid (HND.out.on hb); have HTD := Lib.hid (HTD.out.on hb); have HBD := Lib.hid (HBD.out.trans (hb.mono HBD.out.size)); clear hb)
    | (go_at_call 74; (with_reducible refine (H1.out _ HND.out HTD.out).mono ?_); rintro e v1 ⟨rfl, hb⟩; have HND := Lib.hid (HND.out.on hb); have HTD := Lib.hid (HTD.out.on hb); have HBD := Lib.hid (HBD.out.trans (hb.mono HBD.out.size)); clear hb)
    | (go_at_call 75; (with_reducible refine (H2.out _ HND.out HTD.out).mono ?_); rintro e v2 ⟨rfl, hb⟩; have HND := Lib.hid (HND.out.on hb); have HTD := Lib.hid (HTD.out.on hb); have HBD := Lib.hid (HBD.out.trans (hb.mono HBD.out.size)); obtain ⟨b1, b2⟩ := HBX.out _ HBD.out; obtain ⟨⟨p0, p1, p2, p3, p4⟩, q0, q1, q2, q3, q4⟩ := box5 b1; obtain ⟨⟨r0, r1, r2, r3, r4⟩, s0, s1, s2, s3, s4⟩ := box5 b2; clear b1 b2; clear hb))
  have hfin := (((((((((HBX.out _ HBD.out).1.other (j := 2) (x := .int .i64 x0) (Nat.ne_of_lt (Nat.lt_succ_self w.heap.size))).other (j := 3) (x := .int .i64 x1) (Nat.ne_of_lt (Nat.lt_succ_self w.heap.size))).other (j := 4) (x := .int .i64 x2) (Nat.ne_of_lt (Nat.lt_succ_self w.heap.size))).set 0 (.int .i64 op)).set 1 (.int .i64 0)).set 2 (.int .i64 x0)).set 3 (.int .i64 x1)).set 4 (.int .i64 x2))
  refine bodyPost_ret (v := .agg #[.int .i64 op, .int .i64 0, .int .i64 x0, .int .i64 x1, .int .i64 x2]) (fill_res _ w.heap.size _ _ _ _ _ _ rfl hfin) rfl ⟨rfl, ?_⟩
  repeat (with_reducible refine Below.setCell ?_ (by first | exact Nat.le_refl _ | exact Nat.le_succ _) _)
  exact HBW.out.trans (HBD.out.mono HBW.out.size)
set_option maxRecDepth 100000 in
set_option maxHeartbeats 2000000 in
theorem fill_6 (op : Int) (B c : Nat) (l : List (List UInt8)) (w : World) (hn : NA w) (hT : TX w B l) (hx : ∀ x ∈ l, x.length < 1000000) (hl : l.length < 1000000) (hk : kindA op = 6) :
    Calls Tryz.prog 34 #[.int .i64 op, .slice (some ⟨B, 0, none⟩) l.length c] w fun e w' => e = .returned (.agg #[.int .i64 op, .int .i64 (regAt l 0), .int .i64 0, .int .i64 0, .int .i64 (numAt l 1)]) ∧ Below w.heap.size w w' := by
  have HK := Lib.hid (fun W (hW : NA W) => kind_any op W hW.nt)
  rw [kindA_eq, hk] at HK
  have HBX := Lib.hid (fun W hb => fill_boxes w W op hb)
  have HBW := Lib.hid (below_fill w op)
  have HNW := Lib.hid (hn.on (below_fill w op))
  have HTW := Lib.hid (hT.on (below_fill w op))
  have H0 := Lib.hid (fun W (hW : NA W) (hTT : TX W B l) => registerAt_z B c l 0 0 rfl W hW hTT hx hl (by decide))
  have H1 := Lib.hid (fun W (hW : NA W) (hTT : TX W B l) => numberAt_z B c l 1 1 rfl W hW hTT hx hl (by decide))
  have V0 := Lib.hid (regAt_in l 0)
  have V1 := Lib.hid (numAt_in l 1)
  obtain ⟨x0, hx0⟩ : ∃ x, regAt l 0 = x := ⟨_, rfl⟩
  rw [hx0] at H0 V0 ⊢
  clear hx0
  obtain ⟨x1, hx1⟩ : ∃ x, numAt l 1 = x := ⟨_, rfl⟩
  rw [hx1] at H1 V1 ⊢
  clear hx1
  obtain ⟨n, hnl⟩ : ∃ n, l.length = n := ⟨_, rfl⟩
  rw [hnl] at H0 H1 ⊢
  obtain ⟨W2, hW2⟩ : ∃ W2, fillW w op = W2 := ⟨_, rfl⟩
  rw [hW2] at HBX HBW HNW HTW
  unfold fillW at hW2
  have HW2 := Lib.hid hW2
  clear hW2 hn hT hx hl hk hnl
  go_enter Tryz.func34, Tryz.ntmps34
  go_upto_region 2 with fail
  rw [HW2.out]
  clear HW2
  go_wp2_with (first
    | (go_at_call 36; refine (HK.out _ HNW.out).mono ?_; rintro e w3 ⟨rfl, hb⟩; have HBD := Lib.hid hb; have HND := Lib.hid (HNW.out.on hb); have HTD := Lib.hid (HTW.out.on hb); clear hb)
    | (go_at_call 74; (with_reducible refine (H0.out _ HND.out HTD.out).mono ?_); rintro e v0 ⟨rfl, hb⟩; have HND := Lib.hid (HND.out.on hb); have HTD := Lib.hid (HTD.out.on hb); have HBD := Lib.hid (HBD.out.trans (hb.mono HBD.out.size)); clear hb)
    | (go_at_call 75; (with_reducible refine (H1.out _ HND.out HTD.out).mono ?_); rintro e v1 ⟨rfl, hb⟩; have HND := Lib.hid (HND.out.on hb); have HTD := Lib.hid (HTD.out.on hb); have HBD := Lib.hid (HBD.out.trans (hb.mono HBD.out.size)); obtain ⟨b1, b2⟩ := HBX.out _ HBD.out; obtain ⟨⟨p0, p1, p2, p3, p4⟩, q0, q1, q2, q3, q4⟩ := box5 b1; obtain ⟨⟨r0, r1, r2, r3, r4⟩, s0, s1, s2, s3, s4⟩ := box5 b2; clear b1 b2; clear hb))
  have hfin := ((((((((HBX.out _ HBD.out).1.other (j := 1) (x := .int .i64 x0) (Nat.ne_of_lt (Nat.lt_succ_self w.heap.size))).other (j := 4) (x := .int .i64 x1) (Nat.ne_of_lt (Nat.lt_succ_self w.heap.size))).set 0 (.int .i64 op)).set 1 (.int .i64 x0)).set 2 (.int .i64 0)).set 3 (.int .i64 0)).set 4 (.int .i64 x1))
  refine bodyPost_ret (v := .agg #[.int .i64 op, .int .i64 x0, .int .i64 0, .int .i64 0, .int .i64 x1]) (fill_res _ w.heap.size _ _ _ _ _ _ rfl hfin) rfl ⟨rfl, ?_⟩
  repeat (with_reducible refine Below.setCell ?_ (by first | exact Nat.le_refl _ | exact Nat.le_succ _) _)
  exact HBW.out.trans (HBD.out.mono HBW.out.size)
set_option maxRecDepth 100000 in
set_option maxHeartbeats 2000000 in
theorem fill_7 (op : Int) (B c : Nat) (l : List (List UInt8)) (w : World) (hn : NA w) (hT : TX w B l) (hx : ∀ x ∈ l, x.length < 1000000) (hl : l.length < 1000000) (hk : kindA op = 7) :
    Calls Tryz.prog 34 #[.int .i64 op, .slice (some ⟨B, 0, none⟩) l.length c] w fun e w' => e = .returned (.agg #[.int .i64 op, .int .i64 (regAt l 0), .int .i64 0, .int .i64 0, .int .i64 (numAt l 1)]) ∧ Below w.heap.size w w' := by
  have HK := Lib.hid (fun W (hW : NA W) => kind_any op W hW.nt)
  rw [kindA_eq, hk] at HK
  have HBX := Lib.hid (fun W hb => fill_boxes w W op hb)
  have HBW := Lib.hid (below_fill w op)
  have HNW := Lib.hid (hn.on (below_fill w op))
  have HTW := Lib.hid (hT.on (below_fill w op))
  have H0 := Lib.hid (fun W (hW : NA W) (hTT : TX W B l) => registerAt_z B c l 0 0 rfl W hW hTT hx hl (by decide))
  have H1 := Lib.hid (fun W (hW : NA W) (hTT : TX W B l) => numberAt_z B c l 1 1 rfl W hW hTT hx hl (by decide))
  have V0 := Lib.hid (regAt_in l 0)
  have V1 := Lib.hid (numAt_in l 1)
  obtain ⟨x0, hx0⟩ : ∃ x, regAt l 0 = x := ⟨_, rfl⟩
  rw [hx0] at H0 V0 ⊢
  clear hx0
  obtain ⟨x1, hx1⟩ : ∃ x, numAt l 1 = x := ⟨_, rfl⟩
  rw [hx1] at H1 V1 ⊢
  clear hx1
  obtain ⟨n, hnl⟩ : ∃ n, l.length = n := ⟨_, rfl⟩
  rw [hnl] at H0 H1 ⊢
  obtain ⟨W2, hW2⟩ : ∃ W2, fillW w op = W2 := ⟨_, rfl⟩
  rw [hW2] at HBX HBW HNW HTW
  unfold fillW at hW2
  have HW2 := Lib.hid hW2
  clear hW2 hn hT hx hl hk hnl
  go_enter Tryz.func34, Tryz.ntmps34
  go_upto_region 2 with fail
  rw [HW2.out]
  clear HW2
  go_wp2_with (first
    | (go_at_call 36; refine (HK.out _ HNW.out).mono ?_; rintro e w3 ⟨rfl, hb⟩; have HBD := Lib.hid hb; have HND := Lib.hid (HNW.out.on hb); have HTD := Lib.hid (HTW.out.on hb); clear hb)
    | (go_at_call 74; (with_reducible refine (H0.out _ HND.out HTD.out).mono ?_); rintro e v0 ⟨rfl, hb⟩; have HND := Lib.hid (HND.out.on hb); have HTD := Lib.hid (HTD.out.on hb); have HBD := Lib.hid (HBD.out.trans (hb.mono HBD.out.size)); clear hb)
    | (go_at_call 75; (with_reducible refine (H1.out _ HND.out HTD.out).mono ?_); rintro e v1 ⟨rfl, hb⟩; have HND := Lib.hid (HND.out.on hb); have HTD := Lib.hid (HTD.out.on hb); have HBD := Lib.hid (HBD.out.trans (hb.mono HBD.out.size)); obtain ⟨b1, b2⟩ := HBX.out _ HBD.out; obtain ⟨⟨p0, p1, p2, p3, p4⟩, q0, q1, q2, q3, q4⟩ := box5 b1; obtain ⟨⟨r0, r1, r2, r3, r4⟩, s0, s1, s2, s3, s4⟩ := box5 b2; clear b1 b2; clear hb))
  have hfin := ((((((((HBX.out _ HBD.out).1.other (j := 1) (x := .int .i64 x0) (Nat.ne_of_lt (Nat.lt_succ_self w.heap.size))).other (j := 4) (x := .int .i64 x1) (Nat.ne_of_lt (Nat.lt_succ_self w.heap.size))).set 0 (.int .i64 op)).set 1 (.int .i64 x0)).set 2 (.int .i64 0)).set 3 (.int .i64 0)).set 4 (.int .i64 x1))
  refine bodyPost_ret (v := .agg #[.int .i64 op, .int .i64 x0, .int .i64 0, .int .i64 0, .int .i64 x1]) (fill_res _ w.heap.size _ _ _ _ _ _ rfl hfin) rfl ⟨rfl, ?_⟩
  repeat (with_reducible refine Below.setCell ?_ (by first | exact Nat.le_refl _ | exact Nat.le_succ _) _)
  exact HBW.out.trans (HBD.out.mono HBW.out.size)
set_option maxRecDepth 100000 in
set_option maxHeartbeats 2000000 in
theorem fill_8 (op : Int) (B c : Nat) (l : List (List UInt8)) (w : World) (hn : NA w) (hT : TX w B l) (hx : ∀ x ∈ l, x.length < 1000000) (hl : l.length < 1000000) (hk : kindA op = 8) :
    Calls Tryz.prog 34 #[.int .i64 op, .slice (some ⟨B, 0, none⟩) l.length c] w fun e w' => e = .returned (.agg #[.int .i64 op, .int .i64 (regAt l 0), .int .i64 (regAt l 1), .int .i64 0, .int .i64 0]) ∧ Below w.heap.size w w' := by
  have HK := Lib.hid (fun W (hW : NA W) => kind_any op W hW.nt)
  rw [kindA_eq, hk] at HK
  have HBX := Lib.hid (fun W hb => fill_boxes w W op hb)
  have HBW := Lib.hid (below_fill w op)
  have HNW := Lib.hid (hn.on (below_fill w op))
  have HTW := Lib.hid (hT.on (below_fill w op))
  have H0 := Lib.hid (fun W (hW : NA W) (hTT : TX W B l) => registerAt_z B c l 0 0 rfl W hW hTT hx hl (by decide))
  have H1 := Lib.hid (fun W (hW : NA W) (hTT : TX W B l) => registerAt_z B c l 1 1 rfl W hW hTT hx hl (by decide))
  have V0 := Lib.hid (regAt_in l 0)
  have V1 := Lib.hid (regAt_in l 1)
  obtain ⟨x0, hx0⟩ : ∃ x, regAt l 0 = x := ⟨_, rfl⟩
  rw [hx0] at H0 V0 ⊢
  clear hx0
  obtain ⟨x1, hx1⟩ : ∃ x, regAt l 1 = x := ⟨_, rfl⟩
  rw [hx1] at H1 V1 ⊢
  clear hx1
  obtain ⟨n, hnl⟩ : ∃ n, l.length = n := ⟨_, rfl⟩
  rw [hnl] at H0 H1 ⊢
  obtain ⟨W2, hW2⟩ : ∃ W2, fillW w op = W2 := ⟨_, rfl⟩
  rw [hW2] at HBX HBW HNW HTW
  unfold fillW at hW2
  have HW2 := Lib.hid hW2
  clear hW2 hn hT hx hl hk hnl
  go_enter Tryz.func34, Tryz.ntmps34
  go_upto_region 2 with fail
  rw [HW2.out]
  clear HW2
  go_wp2_with (first
    | (go_at_call 36; refine (HK.out _ HNW.out).mono ?_; rintro e w3 ⟨rfl, hb⟩; have HBD := Lib.hid hb; have HND := Lib.hid (HNW.out.on hb); have HTD := Lib.hid (HTW.out.on hb); clear hb)
    | (go_at_call 74; (with_reducible refine (H0.out _ HND.out HTD.out).mono ?_); rintro e v0 ⟨rfl, hb⟩; have HND := Lib.hid (HND.out.on hb); have HTD := Lib.hid (HTD.out.on hb); have HBD := Lib.hid (HBD.out.trans (hb.mono HBD.out.size)); clear hb)
    | (go_at_call 74; (with_reducible refine (H1.out _ HND.out HTD.out).mono ?_); rintro e v1 ⟨rfl, hb⟩; have HND := Lib.hid (HND.out.on hb); have HTD := Lib.hid (HTD.out.on hb); have HBD := Lib.hid (HBD.out.trans (hb.mono HBD.out.size)); obtain ⟨b1, b2⟩ := HBX.out _ HBD.out; obtain ⟨⟨p0, p1, p2, p3, p4⟩, q0, q1, q2, q3, q4⟩ := box5 b1; obtain ⟨⟨r0, r1, r2, r3, r4⟩, s0, s1, s2, s3, s4⟩ := box5 b2; clear b1 b2; clear hb))
  have hfin := ((((((((HBX.out _ HBD.out).1.other (j := 1) (x := .int .i64 x0) (Nat.ne_of_lt (Nat.lt_succ_self w.heap.size))).other (j := 2) (x := .int .i64 x1) (Nat.ne_of_lt (Nat.lt_succ_self w.heap.size))).set 0 (.int .i64 op)).set 1 (.int .i64 x0)).set 2 (.int .i64 x1)).set 3 (.int .i64 0)).set 4 (.int .i64 0))
  refine bodyPost_ret (v := .agg #[.int .i64 op, .int .i64 x0, .int .i64 x1, .int .i64 0, .int .i64 0]) (fill_res _ w.heap.size _ _ _ _ _ _ rfl hfin) rfl ⟨rfl, ?_⟩
  repeat (with_reducible refine Below.setCell ?_ (by first | exact Nat.le_refl _ | exact Nat.le_succ _) _)
  exact HBW.out.trans (HBD.out.mono HBW.out.size)
set_option maxRecDepth 100000 in
set_option maxHeartbeats 2000000 in
theorem fill_10 (op : Int) (B c : Nat) (l : List (List UInt8)) (w : World) (hn : NA w) (hT : TX w B l) (hx : ∀ x ∈ l, x.length < 1000000) (hl : l.length < 1000000) (hk : kindA op = 10) :
    Calls Tryz.prog 34 #[.int .i64 op, .slice (some ⟨B, 0, none⟩) l.length c] w fun e w' => e = .returned (.agg #[.int .i64 op, .int .i64 0, .int .i64 (regAt l 0), .int .i64 (regAt l 1), .int .i64 0]) ∧ Below w.heap.size w w' := by
  have HK := Lib.hid (fun W (hW : NA W) => kind_any op W hW.nt)
  rw [kindA_eq, hk] at HK
  have HBX := Lib.hid (fun W hb => fill_boxes w W op hb)
  have HBW := Lib.hid (below_fill w op)
  have HNW := Lib.hid (hn.on (below_fill w op))
  have HTW := Lib.hid (hT.on (below_fill w op))
  have H0 := Lib.hid (fun W (hW : NA W) (hTT : TX W B l) => registerAt_z B c l 0 0 rfl W hW hTT hx hl (by decide))
  have H1 := Lib.hid (fun W (hW : NA W) (hTT : TX W B l) => registerAt_z B c l 1 1 rfl W hW hTT hx hl (by decide))
  have V0 := Lib.hid (regAt_in l 0)
  have V1 := Lib.hid (regAt_in l 1)
  obtain ⟨x0, hx0⟩ : ∃ x, regAt l 0 = x := ⟨_, rfl⟩
  rw [hx0] at H0 V0 ⊢
  clear hx0
  obtain ⟨x1, hx1⟩ : ∃ x, regAt l 1 = x := ⟨_, rfl⟩
  rw [hx1] at H1 V1 ⊢
  clear hx1
  obtain ⟨n, hnl⟩ : ∃ n, l.length = n := ⟨_, rfl⟩
  rw [hnl] at H0 H1 ⊢
  obtain ⟨W2, hW2⟩ : ∃ W2, fillW w op = W2 := ⟨_, rfl⟩
  rw [hW2] at HBX HBW HNW HTW
  unfold fillW at hW2
  have HW2 := Lib.hid hW2
  clear hW2 hn hT hx hl hk hnl
  go_enter Tryz.func34, Tryz.ntmps34
  go_upto_region 2 with fail
  rw [HW2.out]
  clear HW2
  go_wp2_with (first
    | (go_at_call 36; refine (HK.out _ HNW.out).mono ?_; rintro e w3 ⟨rfl, hb⟩; have HBD := Lib.hid hb; have HND := Lib.hid (HNW.out.on hb); have HTD := Lib.hid (HTW.out.on hb); clear hb)
    | (go_at_call 74; (with_reducible refine (H0.out _ HND.out HTD.out).mono ?_); rintro e v0 ⟨rfl, hb⟩; have HND := Lib.hid (HND.out.on hb); have HTD := Lib.hid (HTD.out.on hb); have HBD := Lib.hid (HBD.out.trans (hb.mono HBD.out.size)); clear hb)
    | (go_at_call 74; (with_reducible refine (H1.out _ HND.out HTD.out).mono ?_); rintro e v1 ⟨rfl, hb⟩; have HND := Lib.hid (HND.out.on hb); have HTD := Lib.hid (HTD.out.on hb); have HBD := Lib.hid (HBD.out.trans (hb.mono HBD.out.size)); obtain ⟨b1, b2⟩ := HBX.out _ HBD.out; obtain ⟨⟨p0, p1, p2, p3, p4⟩, q0, q1, q2, q3, q4⟩ := box5 b1; obtain ⟨⟨r0, r1, r2, r3, r4⟩, s0, s1, s2, s3, s4⟩ := box5 b2; clear b1 b2; clear hb))
  have hfin := ((((((((HBX.out _ HBD.out).1.other (j := 2) (x := .int .i64 x0) (Nat.ne_of_lt (Nat.lt_succ_self w.heap.size))).other (j := 3) (x := .int .i64 x1) (Nat.ne_of_lt (Nat.lt_succ_self w.heap.size))).set 0 (.int .i64 op)).set 1 (.int .i64 0)).set 2 (.int .i64 x0)).set 3 (.int .i64 x1)).set 4 (.int .i64 0))
  refine bodyPost_ret (v := .agg #[.int .i64 op, .int .i64 0, .int .i64 x0, .int .i64 x1, .int .i64 0]) (fill_res _ w.heap.size _ _ _ _ _ _ rfl hfin) rfl ⟨rfl, ?_⟩
  repeat (with_reducible refine Below.setCell ?_ (by first | exact Nat.le_refl _ | exact Nat.le_succ _) _)
  exact HBW.out.trans (HBD.out.mono HBW.out.size)
set_option maxRecDepth 100000 in
set_option maxHeartbeats 2000000 in
theorem fill_0 (op : Int) (B c : Nat) (l : List (List UInt8)) (w : World) (hn : NA w) (hT : TX w B l) (hx : ∀ x ∈ l, x.length < 1000000) (hl : l.length < 1000000) (hk : kindA op = 0 ∨ kindA op = 9) :
    Calls Tryz.prog 34 #[.int .i64 op, .slice (some ⟨B, 0, none⟩) l.length c] w fun e w' => e = .returned (.agg #[.int .i64 op, .int .i64 0, .int .i64 0, .int .i64 0, .int .i64 0]) ∧ Below w.heap.size w w' := by
  rcases hk with hk | hk
  all_goals
    have HK := Lib.hid (fun W (hW : NA W) => kind_any op W hW.nt)
    rw [kindA_eq, hk] at HK
    have HBX := Lib.hid (fun W hb => fill_boxes w W op hb)
    have HBW := Lib.hid (below_fill w op)
    have HNW := Lib.hid (hn.on (below_fill w op))
    have HTW := Lib.hid (hT.on (below_fill w op))
    obtain ⟨n, hnl⟩ : ∃ n, l.length = n := ⟨_, rfl⟩
    rw [hnl]
    obtain ⟨W2, hW2⟩ : ∃ W2, fillW w op = W2 := ⟨_, rfl⟩
    rw [hW2] at HBX HBW HNW HTW
    unfold fillW at hW2
    have HW2 := Lib.hid hW2
    clear hW2 hn hT hx hl hk hnl
    go_enter Tryz.func34, Tryz.ntmps34
    go_upto_region 2 with fail
    rw [HW2.out]
    clear HW2
    go_wp2_with (first
      | (go_at_call 36; refine (HK.out _ HNW.out).mono ?_; rintro e w3 ⟨rfl, hb⟩; have HBD := Lib.hid hb; have HND := Lib.hid (HNW.out.on hb); have HTD := Lib.hid (HTW.out.on hb); obtain ⟨b1, b2⟩ := HBX.out _ HBD.out; obtain ⟨⟨p0, p1, p2, p3, p4⟩, q0, q1, q2, q3, q4⟩ := box5 b1; obtain ⟨⟨r0, r1, r2, r3, r4⟩, s0, s1, s2, s3, s4⟩ := box5 b2; clear b1 b2; clear hb))
    have hfin := ((((((HBX.out _ HBD.out).1.set 0 (.int .i64 op)).set 1 (.int .i64 0)).set 2 (.int .i64 0)).set 3 (.int .i64 0)).set 4 (.int .i64 0))
    refine bodyPost_ret (v := .agg #[.int .i64 op, .int .i64 0, .int .i64 0, .int .i64 0, .int .i64 0]) (fill_res _ w.heap.size _ _ _ _ _ _ rfl hfin) rfl ⟨rfl, ?_⟩
    repeat (with_reducible refine Below.setCell ?_ (by first | exact Nat.le_refl _ | exact Nat.le_succ _) _)
    exact HBW.out.trans (HBD.out.mono HBW.out.size)
end Go.Proofs.YtdpmihlmfephiaaGreatDoor

namespace Go.Proofs.YtdpmihlmfephiaaGreatDoor
set_option linter.unusedVariables false
set_option linter.unusedSimpArgs false
open Go.Joins Go.ChangeShapes Go.WideShapes Go.ChangeAt Go.RowKit Go.Deep

def insV (op : Int) (x : Ins) : Value := .agg #[.int .i64 op, .int .i64 x.rd, .int .i64 x.rs1, .int .i64 x.rs2, .int .i64 x.n]
theorem fill_any (op : Int) (B c : Nat) (l : List (List UInt8)) (w : World) (hn : NA w) (hT : TX w B l) (hx : ∀ x ∈ l, x.length < 1000000) (hl : l.length < 1000000) :
    Calls Tryz.prog 34 #[.int .i64 op, .slice (some ⟨B, 0, none⟩) l.length c] w fun e w' => e = .returned (insV op (fillF (kindA op) l)) ∧ Below w.heap.size w w' := by
  have hc : kindA op = 0 ∨ kindsA (kindA op) := by
    unfold kindA
    split
    · rename_i h; exact .inr (kinds_op op h.1 h.2)
    · exact .inl rfl
  rcases hc with h | h | h | h | h | h | h | h | h | h | h
  · have := fill_0 op B c l w hn hT hx hl (.inl h); rw [h]; exact this
  · have := fill_1 op B c l w hn hT hx hl h; rw [h]; exact this
  · have := fill_2 op B c l w hn hT hx hl h; rw [h]; exact this
  · have := fill_3 op B c l w hn hT hx hl h; rw [h]; exact this
  · have := fill_4 op B c l w hn hT hx hl h; rw [h]; exact this
  · have := fill_5 op B c l w hn hT hx hl h; rw [h]; exact this
  · have := fill_6 op B c l w hn hT hx hl h; rw [h]; exact this
  · have := fill_7 op B c l w hn hT hx hl h; rw [h]; exact this
  · have := fill_8 op B c l w hn hT hx hl h; rw [h]; exact this
  · have := fill_0 op B c l w hn hT hx hl (.inr h); rw [h]; exact this
  · have := fill_10 op B c l w hn hT hx hl h; rw [h]; exact this
theorem fillF_in (k : Int) (l : List (List UInt8)) : I64 (fillF k l).n := by
  have h0 : I64 0 := ⟨by decide, by decide⟩
  unfold fillF
  repeat' split
  all_goals first | exact h0 | exact numAt_in l _
theorem parts_le (k : Int) (rest : List UInt8) (h : rest.length < 10000) : (∀ x ∈ partsF k rest, x.length < 1000000) ∧ (partsF k rest).length < 1000000 := by
  have h1 := split_le rest sepT
  have h2 := split_len rest sepT
  have h3 := split_pos rest sepT
  unfold partsF
  simp only []
  obtain ⟨l, hl⟩ : ∃ l, Lib.split rest sepT = l := ⟨_, rfl⟩
  rw [hl] at h1 h2 h3 ⊢
  split
  · have hy : (l.getLastD []).length ≤ rest.length := by
      cases l with
      | nil => exact absurd rfl h3
      | cons a r =>
        exact h1 _ (by
          have : (a :: r).getLastD [] = (a :: r).getLast (by simp) := by simp [List.getLastD]
          rw [this]; exact List.getLast_mem _)
    obtain ⟨c1, c2⟩ := cut_le (l.getLastD []) [40]
    have c3 := Lib.trimSuffix_le (Lib.cut (l.getLastD []) [40]).2.1 [41]
    refine ⟨fun x hx => ?_, ?_⟩
    · rcases List.mem_append.1 hx with hx | hx
      · have := h1 x (List.dropLast_subset l hx)
        omega
      · simp only [List.mem_cons, List.not_mem_nil, or_false] at hx
        rcases hx with rfl | rfl <;> omega
    · rw [List.length_append, List.length_dropLast]
      simp only [List.length_cons, List.length_nil]
      omega
  · exact ⟨fun x hx => by have := h1 x hx; omega, by omega⟩
def parV (s : List UInt8) : Value := match parF s with
  | some y => insV y.1 y.2
  | none => insV 0 ⟨0, 0, 0, 0⟩
def parE (s : List UInt8) : Int := match parF s with
  | some _ => 0
  | none => 50
theorem inst_res (W : World) (B : Nat) (a b c d e z : Value) (tmps : Array Value) (ht : tmps[2]? = some (.pointer (some ⟨B, 0, none⟩))) (hz : tmps[3]? = some z) (hb : BoxN W B #[a, b, c, d, e]) : (results Tryz.f15 tmps).run Tryz.prog W = .ok (.tuple #[.agg #[a, b, c, d, e], z]) W := by
  obtain ⟨⟨k0, k1, k2, k3, k4⟩, -⟩ := box5 hb
  simp [results, Tryz.results15, go_sem, ht, hz, k0, k1, k2, k3, k4]
set_option maxRecDepth 100000 in
set_option maxHeartbeats 2000000 in
theorem parse_any (s : List UInt8) (w : World) (hn : NA w) (hl : s.length < 10000) :
    Calls Tryz.prog 15 #[.string ⟨s.toArray⟩] w fun e w' => e = .returned (.tuple #[parV s, .int .i64 (parE s)]) ∧ Below w.heap.size w w' := by
  obtain ⟨W1, hW1⟩ : ∃ W1, w.alloc (.cells #[.int .i64 0, .int .i64 0, .int .i64 0, .int .i64 0, .int .i64 0] 23) = W1 := ⟨_, rfl⟩
  have HBW := Lib.hid (show Below w.heap.size w W1 from hW1 ▸ bAlloc (Below.refl _ _) _)
  have HNW := Lib.hid (hn.on HBW.out)
  have HZ := Lib.hid (show BoxN W1 w.heap.size _ from hW1 ▸ BoxN.new w _ _)
  have HLT := Lib.hid (show w.heap.size < W1.heap.size from HZ.out.lt)
  have H1 := Lib.hid (cut_any s [32] W1 HNW.out (by omega))
  have hc2 := (cut_le s [32]).2
  have H2 := Lib.hid (fun W (hW : NA W) => find_any (Lib.cut s [32]).1 _ (find_fn _) W hW.nt)
  have H3 := Lib.hid (fun W (hW : NA W) => kind_any ((findF (Lib.cut s [32]).1 : Nat)) W hW.nt)
  simp only [kindA_eq] at H3
  have H4 := Lib.hid (fun W (hW : NA W) => parts_any (kindA ((findF (Lib.cut s [32]).1 : Nat))) (Lib.cut s [32]).2.1 W hW (by omega))
  obtain ⟨hp1, hp2⟩ := parts_le (kindA ((findF (Lib.cut s [32]).1 : Nat))) (Lib.cut s [32]).2.1 (by omega)
  have H5 := Lib.hid (fun W B c (hW : NA W) (hT : TX W B _) => fill_any ((findF (Lib.cut s [32]).1 : Nat)) B c (partsF (kindA ((findF (Lib.cut s [32]).1 : Nat))) (Lib.cut s [32]).2.1) W hW hT hp1 hp2)
  have hex : exP s = (((findF (Lib.cut s [32]).1 : Nat) : Int), fillF (kindA ((findF (Lib.cut s [32]).1 : Nat))) (partsF (kindA ((findF (Lib.cut s [32]).1 : Nat))) (Lib.cut s [32]).2.1)) := rfl
  have hfi := fillF_in (kindA ((findF (Lib.cut s [32]).1 : Nat))) (partsF (kindA ((findF (Lib.cut s [32]).1 : Nat))) (Lib.cut s [32]).2.1)
  obtain ⟨op, hop⟩ : ∃ op, findF (Lib.cut s [32]).1 = op := ⟨_, rfl⟩
  rw [hop] at H2 H3 H4 H5 hex hfi
  obtain ⟨xs, hxs⟩ : ∃ xs, partsF (kindA (op : Int)) (Lib.cut s [32]).2.1 = xs := ⟨_, rfl⟩
  unfold PartsPost at H4
  rw [hxs] at H4 H5 hex hfi
  obtain ⟨x, hx⟩ : ∃ x, fillF (kindA (op : Int)) xs = x := ⟨_, rfl⟩
  rw [hx] at H5 hex hfi
  have H6 := Lib.hid (fun W (hW : NA W) => print_any (op : Int) x W hW hfi)
  have hpar : parF s = if okI (op : Int) x = true ∧ textF op x.rd x.rs1 x.rs2 x.n = s then some ((op : Int), x) else none := by unfold parF; rw [hex]
  have HLX : Hid (w.heap.size < W1.heap.size) := HLT
  have HNM := Lib.hid hn
  obtain ⟨k, hk⟩ : ∃ k, kindA (op : Int) = k := ⟨_, rfl⟩
  rw [hk] at H3 H4
  obtain ⟨nm, hnm⟩ : ∃ nm, (Lib.cut s [32]).1 = nm := ⟨_, rfl⟩
  obtain ⟨rest, hrest⟩ : ∃ rest, (Lib.cut s [32]).2.1 = rest := ⟨_, rfl⟩
  rw [hnm, hrest] at H1
  rw [hnm] at H2
  rw [hrest] at H4
  have HW1 := Lib.hid hW1
  have HPAR := Lib.hid hpar
  unfold insV at H5
  unfold priT priE at H6
  by_cases hok : okI (op : Int) x = true
  · simp only [if_pos hok] at H6
    obtain ⟨t, ht⟩ : ∃ t, textF op x.rd x.rs1 x.rs2 x.n = t := ⟨_, rfl⟩
    rw [ht] at H6
    by_cases hts : t = s
    · have hp : parF s = some ((op : Int), x) := by rw [hpar, if_pos ⟨hok, ht.trans hts⟩]
      unfold parV parE
      rw [hp]
      simp only []
      unfold insV
      subst hts
      clear hn hl hW1 hc2 hp1 hp2 hex hfi hop hxs hx hpar hok ht hp hk hnm hrest HPAR
      obtain ⟨rd, rs1, rs2, n⟩ := x
      go_enter Tryz.func15, Tryz.ntmps15
      go_upto_region 1 with fail
      rw [HW1.out]
      clear HW1
      go_wp2_with (first
        | (go_at_call 32; refine H1.out.mono ?_; rintro e w2 ⟨rfl, hb⟩; have HBD := Lib.hid hb; have HND := Lib.hid (HNW.out.on hb); clear hb)
        | (go_at_call 33; refine (H2.out _ HND.out).mono ?_; rintro e w3 ⟨rfl, rfl⟩)
        | (go_at_call 36; refine (H3.out _ HND.out).mono ?_; rintro e w4 ⟨rfl, hb⟩; have HBD := Lib.hid (HBD.out.trans (hb.mono HBD.out.size)); have HND := Lib.hid (HND.out.on hb); clear hb)
        | (go_at_call 35; refine (H4.out _ HND.out).mono ?_; rintro e w5 ⟨B, c, rfl, hT, hb⟩; have HBD := Lib.hid (HBD.out.trans (hb.mono HBD.out.size)); have HND := Lib.hid (HND.out.on hb); have HT := Lib.hid hT; clear hb hT)
        | (go_at_call 34; refine (H5.out _ _ _ HND.out HT.out).mono ?_; rintro e w6 ⟨rfl, hb⟩; have HBD := Lib.hid (HBD.out.trans (hb.mono HBD.out.size)); have HND := Lib.hid (HND.out.on hb); clear hb)
        | (go_at_call 13; refine (H6.out _ (HND.out.alloc _)).mono ?_; rintro e w8 ⟨rfl, hb⟩; have hb6 := (bAlloc (Below.refl w6.heap.size w6) _).trans (hb.mono (Nat.le_of_lt (by simp))); have HB8 := Lib.hid (HBD.out.trans (hb6.mono HBD.out.size)); have bz := HZ.out.below HB8.out HLT.out; have bi := (BoxN.new w6 _ _).below hb (by simp); have BZ := Lib.hid bz; obtain ⟨⟨p0, p1, p2, p3, p4⟩, q0, q1, q2, q3, q4⟩ := box5 bz; obtain ⟨⟨r0, r1, r2, r3, r4⟩, -⟩ := box5 bi; clear hb hb6 bz bi))
      have hfin := (((((BZ.out.set 0 (.int .i64 op)).set 1 (.int .i64 rd)).set 2 (.int .i64 rs1)).set 3 (.int .i64 rs2)).set 4 (.int .i64 n))
      refine bodyPost_ret (v := .tuple #[.agg #[.int .i64 op, .int .i64 rd, .int .i64 rs1, .int .i64 rs2, .int .i64 n], .int .i64 0]) (inst_res _ w.heap.size _ _ _ _ _ _ _ rfl rfl hfin) rfl ⟨rfl, ?_⟩
      repeat (with_reducible refine Below.setCell ?_ (by exact Nat.le_refl _) _)
      exact HBW.out.trans (HB8.out.mono HBW.out.size)
    · have hp : parF s = none := by rw [hpar, if_neg (fun h => hts (ht.symm.trans h.2))]
      unfold parV parE
      rw [hp]
      simp only []
      unfold insV
      have d1 : (t == s) = false := by simpa using hts
      have d2 : (t != s) = true := by simpa using hts
      clear hn hl hW1 hc2 hp1 hp2 hex hfi hop hxs hx hpar hok ht hp hk hnm hrest HPAR hts
      obtain ⟨rd, rs1, rs2, n⟩ := x
      go_enter Tryz.func15, Tryz.ntmps15
      go_upto_region 1 with fail
      rw [HW1.out]
      clear HW1
      go_wp2_with (first
        | (go_at_call 32; refine H1.out.mono ?_; rintro e w2 ⟨rfl, hb⟩; have HBD := Lib.hid hb; have HND := Lib.hid (HNW.out.on hb); clear hb)
        | (go_at_call 33; refine (H2.out _ HND.out).mono ?_; rintro e w3 ⟨rfl, rfl⟩)
        | (go_at_call 36; refine (H3.out _ HND.out).mono ?_; rintro e w4 ⟨rfl, hb⟩; have HBD := Lib.hid (HBD.out.trans (hb.mono HBD.out.size)); have HND := Lib.hid (HND.out.on hb); clear hb)
        | (go_at_call 35; refine (H4.out _ HND.out).mono ?_; rintro e w5 ⟨B, c, rfl, hT, hb⟩; have HBD := Lib.hid (HBD.out.trans (hb.mono HBD.out.size)); have HND := Lib.hid (HND.out.on hb); have HT := Lib.hid hT; clear hb hT)
        | (go_at_call 34; refine (H5.out _ _ _ HND.out HT.out).mono ?_; rintro e w6 ⟨rfl, hb⟩; have HBD := Lib.hid (HBD.out.trans (hb.mono HBD.out.size)); have HND := Lib.hid (HND.out.on hb); clear hb)
        | (go_at_call 13; refine (H6.out _ (HND.out.alloc _)).mono ?_; rintro e w8 ⟨rfl, hb⟩; have hb6 := (bAlloc (Below.refl w6.heap.size w6) _).trans (hb.mono (Nat.le_of_lt (by simp))); have HB8 := Lib.hid (HBD.out.trans (hb6.mono HBD.out.size)); have bz := HZ.out.below HB8.out HLT.out; have bi := (BoxN.new w6 _ _).below hb (by simp); have BZ := Lib.hid bz; obtain ⟨⟨p0, p1, p2, p3, p4⟩, q0, q1, q2, q3, q4⟩ := box5 bz; obtain ⟨⟨r0, r1, r2, r3, r4⟩, -⟩ := box5 bi; clear hb hb6 bz bi))
      have hfin := (((((BZ.out.set 0 (.int .i64 0)).set 1 (.int .i64 0)).set 2 (.int .i64 0)).set 3 (.int .i64 0)).set 4 (.int .i64 0))
      refine bodyPost_ret (v := .tuple #[.agg #[.int .i64 0, .int .i64 0, .int .i64 0, .int .i64 0, .int .i64 0], .int .i64 50]) (inst_res _ w.heap.size _ _ _ _ _ _ _ rfl rfl hfin) rfl ⟨rfl, ?_⟩
      repeat (with_reducible refine Below.setCell ?_ (by exact Nat.le_refl _) _)
      exact HBW.out.trans (HB8.out.mono HBW.out.size)
  · simp only [if_neg hok] at H6
    case neg =>
      have hp : parF s = none := by rw [hpar, if_neg (fun h => hok h.1)]
      unfold parV parE
      rw [hp]
      simp only []
      unfold insV
      clear hn hl hW1 hc2 hp1 hp2 hex hfi hop hxs hx hpar hok hp hk hnm hrest HPAR
      obtain ⟨rd, rs1, rs2, n⟩ := x
      go_enter Tryz.func15, Tryz.ntmps15
      go_upto_region 1 with fail
      rw [HW1.out]
      clear HW1
      go_wp2_with (first
        | (go_at_call 32; refine H1.out.mono ?_; rintro e w2 ⟨rfl, hb⟩; have HBD := Lib.hid hb; have HND := Lib.hid (HNW.out.on hb); clear hb)
        | (go_at_call 33; refine (H2.out _ HND.out).mono ?_; rintro e w3 ⟨rfl, rfl⟩)
        | (go_at_call 36; refine (H3.out _ HND.out).mono ?_; rintro e w4 ⟨rfl, hb⟩; have HBD := Lib.hid (HBD.out.trans (hb.mono HBD.out.size)); have HND := Lib.hid (HND.out.on hb); clear hb)
        | (go_at_call 35; refine (H4.out _ HND.out).mono ?_; rintro e w5 ⟨B, c, rfl, hT, hb⟩; have HBD := Lib.hid (HBD.out.trans (hb.mono HBD.out.size)); have HND := Lib.hid (HND.out.on hb); have HT := Lib.hid hT; clear hb hT)
        | (go_at_call 34; refine (H5.out _ _ _ HND.out HT.out).mono ?_; rintro e w6 ⟨rfl, hb⟩; have HBD := Lib.hid (HBD.out.trans (hb.mono HBD.out.size)); have HND := Lib.hid (HND.out.on hb); clear hb)
        | (go_at_call 13; refine (H6.out _ (HND.out.alloc _)).mono ?_; rintro e w8 ⟨rfl, hb⟩; have hb6 := (bAlloc (Below.refl w6.heap.size w6) _).trans (hb.mono (Nat.le_of_lt (by simp))); have HB8 := Lib.hid (HBD.out.trans (hb6.mono HBD.out.size)); have bz := HZ.out.below HB8.out HLT.out; have bi := (BoxN.new w6 _ _).below hb (by simp); have BZ := Lib.hid bz; obtain ⟨⟨p0, p1, p2, p3, p4⟩, q0, q1, q2, q3, q4⟩ := box5 bz; obtain ⟨⟨r0, r1, r2, r3, r4⟩, -⟩ := box5 bi; clear hb hb6 bz bi))
      have hfin := (((((BZ.out.set 0 (.int .i64 0)).set 1 (.int .i64 0)).set 2 (.int .i64 0)).set 3 (.int .i64 0)).set 4 (.int .i64 0))
      refine bodyPost_ret (v := .tuple #[.agg #[.int .i64 0, .int .i64 0, .int .i64 0, .int .i64 0, .int .i64 0], .int .i64 50]) (inst_res _ w.heap.size _ _ _ _ _ _ _ rfl rfl hfin) rfl ⟨rfl, ?_⟩
      repeat (with_reducible refine Below.setCell ?_ (by exact Nat.le_refl _) _)
      exact HBW.out.trans (HB8.out.mono HBW.out.size)
end Go.Proofs.YtdpmihlmfephiaaGreatDoor

