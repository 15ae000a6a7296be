/- An instruction's text: the program's Print. -/
import Derived.Test.YtdpmihlmfephiaaGreatDoorAsH
namespace Go.Proofs.YtdpmihlmfephiaaGreatDoor
set_option linter.unusedVariables false
set_option linter.unusedSimpArgs false
open Go.Joins Go.ChangeShapes Go.WideShapes Go.ChangeAt Go.RowKit Go.Deep

theorem opdF_nil (k rd rs1 rs2 n : Int) (h : k = 9) : opdF k rd rs1 rs2 n = [] := by subst h; rfl
set_option maxRecDepth 100000 in
theorem opd_9 (op rd rs1 rs2 n : Int) (w : World) (hn : NA w) (hk : kindA op = 9) (h4 : I64 n) :
    Calls Tryz.prog 29 #[.agg #[.int .i64 op, .int .i64 rd, .int .i64 rs1, .int .i64 rs2, .int .i64 n]] w (OpdPost [] w) := by
  have HCE := Lib.hid (fun W hb => inst_cells w W op rd rs1 rs2 n hb)
  obtain ⟨W1, hW1⟩ : ∃ W1, instW w op rd rs1 rs2 n = W1 := ⟨_, rfl⟩
  have HBW := Lib.hid (below_inst w op rd rs1 rs2 n)
  have HNW := Lib.hid (hn.on (below_inst w op rd rs1 rs2 n))
  rw [hW1] at HCE HBW HNW
  have HF := Lib.hid (fmt_any n W1 HNW.out h4.1 (i64_le h4))
  have HK := Lib.hid (fun W (hW : NA W) => kind_any op W hW.nt)
  rw [kindA_eq, hk] at HK
  unfold instW at hW1
  clear hn hk h4
  go_enter Tryz.func29, Tryz.ntmps29
  go_upto_region 1 with fail
  (try rw [hW1])
  clear hW1
  obtain ⟨c0, c1, c2, c3, c4⟩ := HCE.out W1 (Below.refl _ _)
  go_wp2_with (first
    | (go_at_call 69; refine HF.out.mono ?_; rintro e w2 ⟨rfl, hb⟩; have HB2 := Lib.hid hb; have HN2 := Lib.hid (HNW.out.on hb); obtain ⟨d0, d1, d2, d3, d4⟩ := HCE.out w2 hb; clear hb)
    | (go_at_call 36; refine (HK.out _ HN2.out).mono ?_; rintro e w3 ⟨rfl, hb⟩; have HB3 := Lib.hid (HB2.out.trans (hb.mono HB2.out.size)); clear hb))
  all_goals go_wp2_with fail
  all_goals
    go_ret
    exact .inl ⟨rfl, rfl, HBW.out.trans (HB3.out.mono HBW.out.size)⟩
theorem opd_any (op : Int) (x : Ins) (w : World) (hn : NA w) (hk : okI op x = true) :
    Calls Tryz.prog 29 #[.agg #[.int .i64 op, .int .i64 x.rd, .int .i64 x.rs1, .int .i64 x.rs2, .int .i64 x.n]] w (OpdPost (opdF (kindA op) x.rd x.rs1 x.rs2 x.n) w) := by
  obtain ⟨g1, g2, g3, g4⟩ := okI_parts hk
  obtain ⟨f1, f2, f3⟩ := regsB_fit g3
  obtain ⟨a1, a2, -⟩ := fitB_in f1
  obtain ⟨b1, b2, -⟩ := fitB_in f2
  obtain ⟨c1, c2, -⟩ := fitB_in f3
  obtain ⟨i1, i2⟩ := immB_in g4
  have h1 : I64 x.rd := ⟨by omega, by omega⟩
  have h2 : I64 x.rs1 := ⟨by omega, by omega⟩
  have h3 : I64 x.rs2 := ⟨by omega, by omega⟩
  have h4 : I64 x.n := ⟨by omega, by omega⟩
  have hkk : kindA op = kindZ (bareN op) := if_pos ⟨g1, g2⟩
  have hc := kinds_op op g1 g2
  rw [← hkk] at hc
  rcases hc with h | h | h | h | h | h | h | h | h | h
  · have := opd_1 op x.rd x.rs1 x.rs2 x.n w hn h h1 h2 h3 h4; rw [h]; exact this
  · have := opd_2 op x.rd x.rs1 x.rs2 x.n w hn h h1 h2 h3 h4; rw [h]; exact this
  · have := opd_3 op x.rd x.rs1 x.rs2 x.n w hn h h1 h2 h3 h4; rw [h]; exact this
  · have := opd_4 op x.rd x.rs1 x.rs2 x.n w hn h h1 h2 h3 h4; rw [h]; exact this
  · have := opd_5 op x.rd x.rs1 x.rs2 x.n w hn h h1 h2 h3 h4; rw [h]; exact this
  · have := opd_6 op x.rd x.rs1 x.rs2 x.n w hn h h1 h2 h3 h4; rw [h]; exact this
  · have := opd_7 op x.rd x.rs1 x.rs2 x.n w hn h h1 h2 h3 h4; rw [h]; exact this
  · have := opd_8 op x.rd x.rs1 x.rs2 x.n w hn h h1 h2 h3 h4; rw [h]; exact this
  · have := opd_9 op x.rd x.rs1 x.rs2 x.n w hn h h4; rw [h]; exact this
  · have := opd_10 op x.rd x.rs1 x.rs2 x.n w hn h h1 h2 h3 h4; rw [h]; exact this
/-! Lengths. -/
theorem opN_len : ((List.range 82).all fun k => decide ((opN ((k : Int) + 1)).length ≤ 20)) = true := by decide +kernel
theorem opN_le (op : Int) (h1 : 1 ≤ op) (h2 : op ≤ 82) : (opN op).length ≤ 20 := by
  have h := List.all_eq_true.1 opN_len (op.toNat - 1) (List.mem_range.2 (by omega))
  rw [show (((op.toNat - 1 : Nat) : Int) + 1) = op by omega] at h
  simpa using h
theorem itoa_le {n : Int} (h0 : -2147483648 ≤ n) (h1 : n < 2147483648) : (Lib.itoa n).length ≤ 21 := Lib.itoa_length_le n (by omega) (by omega)
theorem regT_le {n : Int} (h0 : 0 ≤ n) (h1 : n < 32) : (regT n).length ≤ 22 := by unfold regT; rw [List.length_cons]; have := itoa_le (n := n) (by omega) (by omega); omega
theorem opdF_le (op : Int) (x : Ins) (hk : okI op x = true) (k : Int) : (opdF k x.rd x.rs1 x.rs2 x.n).length ≤ 3 ∧ ∀ y ∈ opdF k x.rd x.rs1 x.rs2 x.n, y.length ≤ 50 := by
  obtain ⟨g1, g2, g3, g4⟩ := okI_parts hk
  obtain ⟨f1, f2, f3⟩ := regsB_fit g3
  obtain ⟨a1, a2, -⟩ := fitB_in f1
  obtain ⟨b1, b2, -⟩ := fitB_in f2
  obtain ⟨c1, c2, -⟩ := fitB_in f3
  obtain ⟨i1, i2⟩ := immB_in g4
  have e1 := regT_le a1 a2
  have e2 := regT_le b1 b2
  have e3 := regT_le c1 c2
  have e4 := itoa_le i1 i2
  have e5 : (placeT x.n x.rs1).length ≤ 50 := by unfold placeT; simp; omega
  unfold opdF
  repeat' split
  all_goals
    refine ⟨by simp, fun y hy => ?_⟩
    (simp only [List.mem_cons, List.not_mem_nil, or_false] at hy) <;> first
      | (rcases hy with rfl | rfl | rfl <;> omega)
      | (rcases hy with rfl | rfl <;> omega)
theorem lens_le (B : Nat) : ∀ l : List (List UInt8), (∀ y ∈ l, y.length ≤ B) → Lib.lens l ≤ B * l.length
  | [], _ => by simp [Lib.lens]
  | x :: l, h => by
    have h1 := h x (by simp)
    have h2 := lens_le B l (fun y hy => h y (List.mem_cons_of_mem _ hy))
    simp only [Lib.lens, List.map_cons, List.sum_cons, List.length_cons] at h2 ⊢
    rw [Nat.mul_add]
    omega
theorem join_le (op : Int) (x : Ins) (hk : okI op x = true) (k : Int) : (Lib.join (opdF k x.rd x.rs1 x.rs2 x.n) sepT).length ≤ 300 := by
  obtain ⟨h1, h2⟩ := opdF_le op x hk k
  cases hl : opdF k x.rd x.rs1 x.rs2 x.n with
  | nil => simp [Lib.join_nil]
  | cons y l =>
    rw [hl] at h1 h2
    rw [Lib.join_length]
    have := lens_le 50 (y :: l) h2
    simp only [List.length_cons] at h1 this
    have h3 : sepT.length = 2 := rfl
    rw [h3]
    omega
theorem textF_le (op : Int) (x : Ins) (hk : okI op x = true) : (textF op x.rd x.rs1 x.rs2 x.n).length ≤ 400 := by
  obtain ⟨g1, g2, -⟩ := okI_parts hk
  have h1 := opN_le op g1 g2
  have h2 := join_le op x hk (kindA op)
  unfold textF tailT
  split <;> (simp only [List.length_append, List.length_cons, List.length_nil]; omega)
def priT (op : Int) (x : Ins) : List UInt8 := if okI op x = true then textF op x.rd x.rs1 x.rs2 x.n else []
def priE (op : Int) (x : Ins) : Int := if okI op x = true then 0 else 1
theorem right_ok (op : Int) (x : Ins) : rightB op x.rd x.rs1 x.rs2 x.n = okI op x := rfl
set_option maxRecDepth 100000 in
set_option maxHeartbeats 1000000 in
theorem print_any (op : Int) (x : Ins) (w : World) (hn : NA w) (hi : I64 x.n) :
    Calls Tryz.prog 13 #[.agg #[.int .i64 op, .int .i64 x.rd, .int .i64 x.rs1, .int .i64 x.rs2, .int .i64 x.n]] w fun e w' => e = .returned (.tuple #[.string ⟨(priT op x).toArray⟩, .int .i64 (priE op x)]) ∧ Below w.heap.size w w' := by
  have HCE := Lib.hid (fun W hb => inst_cells w W op x.rd x.rs1 x.rs2 x.n hb)
  obtain ⟨W1, hW1⟩ : ∃ W1, instW w op x.rd x.rs1 x.rs2 x.n = W1 := ⟨_, rfl⟩
  have HBW := Lib.hid (below_inst w op x.rd x.rs1 x.rs2 x.n)
  have HNW := Lib.hid (hn.on (below_inst w op x.rd x.rs1 x.rs2 x.n))
  rw [hW1] at HCE HBW HNW
  have HE := Lib.hid (encode_any op x.rd x.rs1 x.rs2 x.n W1 HNW.out.nt hi)
  unfold encE at HE
  rw [right_ok] at HE
  unfold instV at HE
  unfold priT priE
  unfold instW at hW1
  cases hk : okI op x with
  | false =>
    rw [hk, if_neg (by decide)] at HE
    rw [if_neg (by decide), if_neg (by decide)]
    clear hn hi hk
    obtain ⟨rd, rs1, rs2, n⟩ := x
    go_enter Tryz.func13, Tryz.ntmps13
    go_upto_region 1 with fail
    (try rw [hW1])
    clear hW1
    obtain ⟨c0, c1, c2, c3, c4⟩ := HCE.out W1 (Below.refl _ _)
    go_wp2_with (go_at_call 27; refine HE.out.mono ?_; rintro e w2 ⟨rfl, hb⟩; have HB2 := Lib.hid hb; clear hb)
    go_ret2
    exact ⟨rfl, HBW.out.trans (HB2.out.mono HBW.out.size)⟩
  | true =>
    rw [hk, if_pos rfl] at HE
    rw [if_pos rfl, if_pos rfl]
    obtain ⟨g1, g2, -⟩ := okI_parts hk
    have HNM := Lib.hid (fun W (hW : NA W) => name_any op W hW.nt)
    have HO := Lib.hid (fun W (hW : NA W) => opd_any op x W hW hk)
    have hlj := join_le op x hk (kindA op)
    have hln := opN_le op g1 g2
    have hl3 := (opdF_le op x hk (kindA op)).1
    unfold textF tailT
    obtain ⟨xs, hxs⟩ : ∃ xs, opdF (kindA op) x.rd x.rs1 x.rs2 x.n = xs := ⟨_, rfl⟩
    rw [hxs] at HO hlj hl3 ⊢
    by_cases hx0 : xs = []
    · subst hx0
      rw [if_pos rfl, List.append_nil]
      clear hn hi hk hxs hlj hln hl3 g1 g2
      obtain ⟨rd, rs1, rs2, n⟩ := x
      go_enter Tryz.func13, Tryz.ntmps13
      go_upto_region 1 with fail
      (try rw [hW1])
      clear hW1
      obtain ⟨c0, c1, c2, c3, c4⟩ := HCE.out W1 (Below.refl _ _)
      go_wp2_with (first
        | (go_at_call 27; refine HE.out.mono ?_; rintro e w2 ⟨rfl, hb⟩; have HB2 := Lib.hid hb; have HN2 := Lib.hid (HNW.out.on hb); obtain ⟨d0, d1, d2, d3, d4⟩ := HCE.out w2 hb; clear hb)
        | (go_at_call 28; refine (HNM.out _ HN2.out).mono ?_; rintro e w3 ⟨rfl, rfl⟩))
      refine (HO.out _ HN2.out).mono ?_
      rintro e w4 (⟨-, rfl, hb⟩ | ⟨B, rfl, hT, hb⟩)
      all_goals
        have HB4 := Lib.hid (HB2.out.trans (hb.mono HB2.out.size))
        clear hb c0 c1 c2 c3 c4 d0 d1 d2 d3 d4
        (try simp only [List.length_nil])
        go_wp2_with fail
        go_ret2
        exact ⟨rfl, HBW.out.trans (HB4.out.mono HBW.out.size)⟩
    · rw [if_neg hx0]
      have HJ := Lib.hid (fun B W (hT : TX W B xs) => join_any B xs sepT W xs.length hT.cell hT.lt (by omega) (Nat.le_refl _) (by omega))
      have k1 := add_l [32] (Lib.join xs sepT) (32 :: Lib.join xs sepT) rfl (by decide) (by omega)
      have k2 := add_l (opN op) (32 :: Lib.join xs sepT) (opN op ++ 32 :: Lib.join xs sepT) rfl (by omega) (by rw [List.length_cons]; omega)
      have h0 : 0 < xs.length := List.length_pos_iff.2 hx0
      obtain ⟨m, hm⟩ : ∃ m, xs.length = m := ⟨_, rfl⟩
      have HM := Lib.hid hm
      have HX0 := Lib.hid hx0
      rw [hm] at HJ h0
      have hd : decide (0 < m) = true := decide_eq_true h0
      clear hn hi hk hxs hlj hln hl3 hm g1 g2 hx0
      obtain ⟨rd, rs1, rs2, n⟩ := x
      go_enter Tryz.func13, Tryz.ntmps13
      go_upto_region 1 with fail
      (try rw [hW1])
      clear hW1
      obtain ⟨c0, c1, c2, c3, c4⟩ := HCE.out W1 (Below.refl _ _)
      go_wp2_with (first
        | (go_at_call 27; refine HE.out.mono ?_; rintro e w2 ⟨rfl, hb⟩; have HB2 := Lib.hid hb; have HN2 := Lib.hid (HNW.out.on hb); obtain ⟨d0, d1, d2, d3, d4⟩ := HCE.out w2 hb; clear hb)
        | (go_at_call 28; refine (HNM.out _ HN2.out).mono ?_; rintro e w3 ⟨rfl, rfl⟩))
      refine (HO.out _ HN2.out).mono ?_
      rintro e w4 (⟨hx, rfl, hb⟩ | ⟨B, rfl, hT, hb⟩)
      · exact absurd hx HX0.out
      · have HB4 := Lib.hid (HB2.out.trans (hb.mono HB2.out.size))
        have HT := Lib.hid hT
        rw [HM.out]
        clear hb hT c0 c1 c2 c3 c4 d0 d1 d2 d3 d4
        go_wp2_with (go_at_call 30; refine (HJ.out _ _ HT.out).mono ?_; rintro e w5 ⟨rfl, hb⟩; have HB5 := Lib.hid (HB4.out.trans (hb.mono HB4.out.size)); clear hb)
        go_ret2
        exact ⟨rfl, HBW.out.trans (HB5.out.mono HBW.out.size)⟩
end Go.Proofs.YtdpmihlmfephiaaGreatDoor
