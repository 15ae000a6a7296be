/- What was stored is loaded: contract. -/
import Derived.Test.YtgfkjlknkbdjiaaTmL6
import Derived.Test.YtgfkjlknkbdjiaaTmLm
namespace Go.Proofs.Ytgfkjlknkbdjiaa
set_option linter.unusedVariables false
set_option linter.unusedSimpArgs false
open Go.Joins Go.ChangeShapes Go.WideShapes Go.ChangeAt Go.RowKit Go.Deep

theorem cp_false (d : Cp) (h : d.g = false) : ∃ d0 d1 d2 d3 d4, d = ⟨d0, d1, d2, d3, d4, false⟩ := by
  obtain ⟨d0, d1, d2, d3, d4, d5⟩ := d
  obtain rfl : d5 = false := h
  exact ⟨_, _, _, _, _, rfl⟩
set_option maxRecDepth 100000 in
set_option maxHeartbeats 2000000 in
theorem stored_walk (W : World) (S : Nat) (hS : W.heap.size = S) (b : Int) (la : Option Addr) (lc : Nat) (l : List Opr) (hl : RdP W S la l) (a : Nat) (ha : a < 18446744073709551616) (w : Int) (hw0 : 0 ≤ w) (hw1 : w < 18446744073709551616) (cb ct ca cp cy : Int) (cg : Bool) (hfc : FitC ⟨cb, ct, ca, cp, cy, cg⟩) :
    Calls Try.prog 4 #[.int .i64 b, .slice la l.length lc, .int .u64 (a : Int), .int .u64 w, .agg #[.int .u64 cb, .int .u64 ct, .int .u64 ca, .int .i64 cp, .int .i64 cy, .bool cg]] W fun e W' => e = .returned (.bool true) ∧ Below S W W' := by
  have HL := Lib.hid hl
  have HMA := Lib.hid (fun W1 (h : RdP W1 W1.heap.size la l) => made_any W1 b la lc l h)
  obtain ⟨ll, hll⟩ : ∃ n, l.length = n := ⟨_, rfl⟩
  rw [hll] at HMA ⊢
  clear hl hll
  obtain ⟨c, hc⟩ : ∃ c : Cp, (⟨cb, ct, ca, cp, cy, cg⟩ : Cp) = c := ⟨_, rfl⟩
  have hcc : (capC c).toArray = #[.int .u64 cb, .int .u64 ct, .int .u64 ca, .int .i64 cp, .int .i64 cy, .bool cg] := by rw [← hc]; rfl
  rw [hc] at hfc
  have HFC := Lib.hid hfc
  have HRI := Lib.hid (fun W2 => right_any c W2)
  have HSC := Lib.hid (fun W3 M F m (h : Own1 W3 (S + 1) F M m) (s : Nat) (hs : s < 18446744073709551616) => sstoreC_any W3 (S + 1) M F m h s c hs hfc)
  simp only [hcc] at HRI HSC
  have HW := Lib.hid (And.intro hw0 hw1)
  obtain ⟨W0, hW0⟩ : ∃ W0, W.alloc (.cells #[.int .u64 cb, .int .u64 ct, .int .u64 ca, .int .i64 cp, .int .i64 cy, .bool cg] 41) = W0 := ⟨_, rfl⟩
  have HB0 : Hid (Below S W W0) := Lib.hid (by rw [← hW0, ← hS]; exact bAlloc (Below.refl _ _) _)
  have HX0 : Hid (BoxN W0 S #[.int .u64 cb, .int .u64 ct, .int .u64 ca, .int .i64 cp, .int .i64 cy, .bool cg]) := Lib.hid (by rw [← hW0, ← hS]; exact BoxN.new W _ _)
  have HAA := Lib.hid ha
  have HCC := Lib.hid hcc
  clear hfc hw0 hw1 ha hc hcc
  go_enter Try.func4, Try.ntmps4
  go_upto_region 1 with fail
  (try simp only [hW0, hS])
  clear hW0
  have HS := Lib.hid hS
  clear hS
  go_wp2_with fail
  refine (awake_any _).mono ?_
  rintro e W1 ⟨rfl, hb1⟩
  have HB1 := Lib.hid (HB0.out.trans (hb1.mono (Nat.le_of_lt HX0.out.lt)))
  have HX1 := Lib.hid (boxN_below HX0.out hb1)
  have HM := Lib.hid (HMA.out W1 ((HL.out.below HB1.out).mono (Nat.le_of_lt HX1.out.lt)))
  clear hb1 HMA
  go_wp2_with fail
  refine HM.out.mono ?_
  rintro e W2 ⟨hmm, hb2⟩
  have HMM := Lib.hid hmm
  have HB2 := Lib.hid (HB1.out.trans (hb2.mono (Nat.le_of_lt HX1.out.lt)))
  have HX2 := Lib.hid (boxN_below HX1.out hb2)
  obtain ⟨rb, hrb⟩ : ∃ r, rightB c = r := ⟨_, rfl⟩
  have HRB := Lib.hid hrb
  have C := Lib.hid (HRI.out W2)
  rw [hrb] at C
  clear hmm hb2 HM hrb
  have u0 : W2.cell? ⟨S, 0, none⟩ = some (.int .u64 cb) := HX2.out.cell 0
  have u1 : W2.cell? ⟨S, 1, none⟩ = some (.int .u64 ct) := HX2.out.cell 1
  have u2 : W2.cell? ⟨S, 2, none⟩ = some (.int .u64 ca) := HX2.out.cell 2
  have u3 : W2.cell? ⟨S, 3, none⟩ = some (.int .i64 cp) := HX2.out.cell 3
  have u4 : W2.cell? ⟨S, 4, none⟩ = some (.int .i64 cy) := HX2.out.cell 4
  have u5 : W2.cell? ⟨S, 5, none⟩ = some (.bool cg) := HX2.out.cell 5
  rcases HMM.out with ⟨hno, rfl⟩ | ⟨hno, M, rfl, hso⟩
  · clear hno
    go_wp2_with fail
    refine C.out.mono ?_
    rintro e W3 ⟨rfl, hb⟩
    have HB3 := Lib.hid (HB2.out.trans (hb.mono (Nat.le_of_lt HX2.out.lt)))
    clear hb C
    go_wp2_with fail
    go_ret
    exact ⟨by simp, HB3.out⟩
  · obtain ⟨F, ho⟩ := hso.own
    have O2 := Lib.hid (ho.low (N' := S + 1) HX1.out.lt)
    obtain ⟨m, hm⟩ : ∃ m, madeM b l = m := ⟨_, rfl⟩
    rw [hm] at O2
    clear ho hso hno hm HMM
    go_wp2_with fail
    refine C.out.mono ?_
    rintro e W3 ⟨rfl, hb⟩
    have HB3 := Lib.hid (HB2.out.trans (hb.mono (Nat.le_of_lt HX2.out.lt)))
    have HX3 := Lib.hid (boxN_below HX2.out hb)
    have O3 := Lib.hid (O2.out.below hb)
    clear hb C O2
    cases rb with
    | false =>
      go_wp2_with fail
      go_ret
      exact ⟨by simp, HB3.out⟩
    | true =>
      obtain ⟨r, hr⟩ : ∃ r, a % 32 = r := ⟨_, rfl⟩
      obtain ⟨s, hs⟩ : ∃ s, a = s + r := ⟨a - r, by omega⟩
      have hs32 : s % 32 = 0 := by omega
      obtain ⟨k, hk⟩ : ∃ k, a % 4 = k := ⟨_, rfl⟩
      have hk4 : k < 4 := by omega
      obtain ⟨e8, he8⟩ : ∃ e, 8 * k = e := ⟨_, rfl⟩
      obtain ⟨t, ht⟩ : ∃ t, s + e8 = t := ⟨_, rfl⟩
      have hsa : s < 18446744073709551616 := by have := HAA.out; omega
      have hta : t < 18446744073709551616 := by have := HAA.out; omega
      have g1 : (a : Int) % 32 = (r : Int) := by omega
      have g2 : IntKind.u64.wrap ((a : Int) - (r : Int)) = (s : Int) := by rw [IntKind.wrap_u64]; omega
      have g3 : (a : Int) % 4 = (k : Int) := by omega
      have g4 : IntKind.u64.wrap (8 * (k : Int)) = (e8 : Int) := by rw [IntKind.wrap_u64]; omega
      have g5 : IntKind.u64.wrap ((s : Int) + (e8 : Int)) = (t : Int) := by rw [IntKind.wrap_u64]; omega
      have C := Lib.hid (HSC.out W3 M F m O3.out s hsa)
      have HT := Lib.hid hta
      have HSS := Lib.hid hsa
      have hts : s + 8 * k = t := by omega
      have HK := Lib.hid (And.intro hs32 (And.intro hk4 hts))
      clear hr hs hs32 hk hk4 he8 ht hsa hta hts
      have v0 : W3.cell? ⟨S, 0, none⟩ = some (.int .u64 cb) := HX3.out.cell 0
      have v1 : W3.cell? ⟨S, 1, none⟩ = some (.int .u64 ct) := HX3.out.cell 1
      have v2 : W3.cell? ⟨S, 2, none⟩ = some (.int .u64 ca) := HX3.out.cell 2
      have v3 : W3.cell? ⟨S, 3, none⟩ = some (.int .i64 cp) := HX3.out.cell 3
      have v4 : W3.cell? ⟨S, 4, none⟩ = some (.int .i64 cy) := HX3.out.cell 4
      have v5 : W3.cell? ⟨S, 5, none⟩ = some (.bool cg) := HX3.out.cell 5
      by_cases hin : spotE m (s : Int) = 0
      · obtain ⟨q1, q2, q3, q4, q5, d, q6, q7⟩ := stored_all (m := m) HK.out.1 HK.out.2.1 HFC.out HRB.out HW.out.1 HW.out.2 hin
        rw [HK.out.2.2] at q3 q4 q5 q6
        rw [q1] at C
        dsimp only at C
        obtain ⟨m1, hm1⟩ : ∃ x, putC m s c = x := ⟨_, rfl⟩
        rw [hm1] at q2 q3 q4 q5 q6 C
        obtain ⟨m2, hm2⟩ : ∃ x, wrL m1 t (littleN w.toNat 8) = x := ⟨_, rfl⟩
        rw [hm2] at q3 q4 q5 q6
        obtain ⟨d0, d1, d2, d3, d4, rfl⟩ := cp_false d q7
        have hdc : (capC ⟨d0, d1, d2, d3, d4, false⟩).toArray = #[.int .u64 d0, .int .u64 d1, .int .u64 d2, .int .i64 d3, .int .i64 d4, .bool false] := rfl
        have Q2 := Lib.hid q2
        have Q3 := Lib.hid q3
        have Q4 := Lib.hid q4
        have Q5 := Lib.hid q5
        have Q6 := Lib.hid q6
        have HDC := Lib.hid hdc
        clear q1 q2 q3 q4 q5 q6 hm1 hm2 hin hdc
        go_wp2_with fail
        refine C.out.mono ?_
        rintro e W4 ⟨rfl, F4, h4, mv⟩
        have HB4 := Lib.hid (HB3.out.trans ((mv.belowN O3.out).mono (by omega)))
        have HX4 := Lib.hid (HX3.out.kp mv.kp HX3.out.lt (fun hf => by have := O3.out.ge _ hf; omega))
        have O4 := Lib.hid h4
        clear h4 mv C
        have C := Lib.hid (sloadC_any W4 (S + 1) M F4 m1 O4.out s HSS.out)
        rw [Q2.out] at C
        dsimp only at C
        rw [HCC.out] at C
        go_wp2_with fail
        refine C.out.mono ?_
        rintro e W5 ⟨rfl, hb⟩
        have hbA : Below W5.heap.size W5 (W5.alloc (.cells #[.int .u64 cb, .int .u64 ct, .int .u64 ca, .int .i64 cp, .int .i64 cy, .bool cg] 41)) := bAlloc (Below.refl _ _) _
        have HX5 := Lib.hid (boxN_below (boxN_below HX4.out hb) hbA)
        have HA5 := Lib.hid (BoxN.new W5 #[.int .u64 cb, .int .u64 ct, .int .u64 ca, .int .i64 cp, .int .i64 cy, .bool cg] 41)
        have O5 := Lib.hid ((O4.out.below hb).below hbA)
        have HF5 : Hid (¬ F4 W5.heap.size) := Lib.hid (fun hf => by have := (O4.out.below hb).lt _ hf; omega)
        have HB5 := Lib.hid (HB4.out.trans ((bTrans hb hbA).mono (Nat.le_of_lt HX4.out.lt)))
        clear hb hbA C
        have C := Lib.hid (sstore_any (W5.alloc (.cells #[.int .u64 cb, .int .u64 ct, .int .u64 ca, .int .i64 cp, .int .i64 cy, .bool cg] 41)) (S + 1) M F4 m1 O5.out t 8 w HT.out HW.out.1 HW.out.2)
        rw [Q3.out] at C
        dsimp only at C
        go_wp2_with fail
        refine C.out.mono ?_
        rintro e W6 ⟨rfl, F6, h6, mv⟩
        have HB6 := Lib.hid (HB5.out.trans ((mv.belowN O5.out).mono (by omega)))
        have HX6 := Lib.hid (HX5.out.kp mv.kp HX5.out.lt (fun hf => by have := O5.out.ge _ hf; omega))
        have HA6 := Lib.hid (HA5.out.kp mv.kp HA5.out.lt HF5.out)
        have O6 := Lib.hid h6
        clear h6 mv C
        have C := Lib.hid (sload_any W6 (S + 1) M F6 m2 O6.out t 8 HT.out)
        have C2 := Lib.hid (sload_any W6 (S + 1) M F6 m2 O6.out t 1 HT.out)
        rw [Q4.out] at C
        rw [Q5.out] at C2
        dsimp only at C C2
        go_wp2_with fail
        refine C.out.mono ?_
        rintro e W6' ⟨rfl, rfl⟩
        go_wp2_with fail
        refine C2.out.mono ?_
        rintro e W6' ⟨rfl, rfl⟩
        clear C C2
        have C := Lib.hid (sloadC_any W6 (S + 1) M F6 m2 O6.out s HSS.out)
        rw [Q6.out] at C
        dsimp only at C
        rw [HDC.out] at C
        go_wp2_with fail
        refine C.out.mono ?_
        rintro e W7 ⟨rfl, hb⟩
        have hbA : Below W7.heap.size W7 (W7.alloc (.cells #[.int .u64 d0, .int .u64 d1, .int .u64 d2, .int .i64 d3, .int .i64 d4, .bool false] 41)) := bAlloc (Below.refl _ _) _
        have HX7 := Lib.hid (boxN_below (boxN_below HX6.out hb) hbA)
        have HA7 := Lib.hid (boxN_below (boxN_below HA6.out hb) hbA)
        have HD7 := BoxN.new W7 #[.int .u64 d0, .int .u64 d1, .int .u64 d2, .int .i64 d3, .int .i64 d4, .bool false] 41
        have HB7 := Lib.hid (HB6.out.trans ((bTrans hb hbA).mono (Nat.le_of_lt HX6.out.lt)))
        clear hb hbA C
        have x0 : (W7.alloc (.cells #[.int .u64 d0, .int .u64 d1, .int .u64 d2, .int .i64 d3, .int .i64 d4, .bool false] 41)).cell? ⟨S, 0, none⟩ = some (.int .u64 cb) := HX7.out.cell 0
        have x1 : (W7.alloc (.cells #[.int .u64 d0, .int .u64 d1, .int .u64 d2, .int .i64 d3, .int .i64 d4, .bool false] 41)).cell? ⟨S, 1, none⟩ = some (.int .u64 ct) := HX7.out.cell 1
        have x2 : (W7.alloc (.cells #[.int .u64 d0, .int .u64 d1, .int .u64 d2, .int .i64 d3, .int .i64 d4, .bool false] 41)).cell? ⟨S, 2, none⟩ = some (.int .u64 ca) := HX7.out.cell 2
        have x3 : (W7.alloc (.cells #[.int .u64 d0, .int .u64 d1, .int .u64 d2, .int .i64 d3, .int .i64 d4, .bool false] 41)).cell? ⟨S, 3, none⟩ = some (.int .i64 cp) := HX7.out.cell 3
        have x4 : (W7.alloc (.cells #[.int .u64 d0, .int .u64 d1, .int .u64 d2, .int .i64 d3, .int .i64 d4, .bool false] 41)).cell? ⟨S, 4, none⟩ = some (.int .i64 cy) := HX7.out.cell 4
        have x5 : (W7.alloc (.cells #[.int .u64 d0, .int .u64 d1, .int .u64 d2, .int .i64 d3, .int .i64 d4, .bool false] 41)).cell? ⟨S, 5, none⟩ = some (.bool cg) := HX7.out.cell 5
        have y0 : (W7.alloc (.cells #[.int .u64 d0, .int .u64 d1, .int .u64 d2, .int .i64 d3, .int .i64 d4, .bool false] 41)).cell? ⟨W5.heap.size, 0, none⟩ = some (.int .u64 cb) := HA7.out.cell 0
        have y1 : (W7.alloc (.cells #[.int .u64 d0, .int .u64 d1, .int .u64 d2, .int .i64 d3, .int .i64 d4, .bool false] 41)).cell? ⟨W5.heap.size, 1, none⟩ = some (.int .u64 ct) := HA7.out.cell 1
        have y2 : (W7.alloc (.cells #[.int .u64 d0, .int .u64 d1, .int .u64 d2, .int .i64 d3, .int .i64 d4, .bool false] 41)).cell? ⟨W5.heap.size, 2, none⟩ = some (.int .u64 ca) := HA7.out.cell 2
        have y3 : (W7.alloc (.cells #[.int .u64 d0, .int .u64 d1, .int .u64 d2, .int .i64 d3, .int .i64 d4, .bool false] 41)).cell? ⟨W5.heap.size, 3, none⟩ = some (.int .i64 cp) := HA7.out.cell 3
        have y4 : (W7.alloc (.cells #[.int .u64 d0, .int .u64 d1, .int .u64 d2, .int .i64 d3, .int .i64 d4, .bool false] 41)).cell? ⟨W5.heap.size, 4, none⟩ = some (.int .i64 cy) := HA7.out.cell 4
        have y5 : (W7.alloc (.cells #[.int .u64 d0, .int .u64 d1, .int .u64 d2, .int .i64 d3, .int .i64 d4, .bool false] 41)).cell? ⟨W5.heap.size, 5, none⟩ = some (.bool cg) := HA7.out.cell 5
        have z5 : (W7.alloc (.cells #[.int .u64 d0, .int .u64 d1, .int .u64 d2, .int .i64 d3, .int .i64 d4, .bool false] 41)).cell? ⟨W7.heap.size, 5, none⟩ = some (.bool false) := HD7.cell 5
        clear HD7
        have hwm : w.tmod 256 = w % 256 := Int.tmod_eq_emod_of_nonneg HW.out.1
        go_wp2_with fail
        go_ret
        exact ⟨by simp, HB7.out⟩
      · have he : storeC m (s : Int) c = (m, 30) := by
          have h30 : spotE m (s : Int) = 30 := by
            have := HK.out.1
            unfold spotE at hin ⊢
            rw [if_neg (by omega)] at hin ⊢
            split at hin
            · exact absurd rfl hin
            · rename_i h; rw [if_neg h]
          unfold storeC
          rw [h30, if_neg (by decide)]
        rw [he] at C
        dsimp only at C
        clear he hin
        go_wp2_with fail
        refine C.out.mono ?_
        rintro e W4 ⟨rfl, F4, h4, mv⟩
        have HB4 := Lib.hid (HB3.out.trans ((mv.belowN O3.out).mono (by omega)))
        clear h4 mv C
        go_wp2_with fail
        go_ret
        exact ⟨by simp, HB4.out⟩
theorem TagmemStored_walk (W : World) (b : Int) (la : Option Addr) (lc : Nat) (l : List Opr) (hl : RdP W W.heap.size la l) (at_ : Int) (ha0 : 0 ≤ at_) (ha1 : at_ < 18446744073709551616) (w : Int) (hw0 : 0 ≤ w) (hw1 : w < 18446744073709551616) (cb ct ca cp cy : Int) (cg : Bool) (hfc : FitC ⟨cb, ct, ca, cp, cy, cg⟩) :
    Calls Try.prog 4 #[.int .i64 b, .slice la l.length lc, .int .u64 at_, .int .u64 w, .agg #[.int .u64 cb, .int .u64 ct, .int .u64 ca, .int .i64 cp, .int .i64 cy, .bool cg]] W fun e W' => e = .returned (.bool true) ∧ Below W.heap.size W W' := by
  obtain ⟨a, rfl⟩ : ∃ a : Nat, at_ = a := ⟨at_.toNat, by omega⟩
  exact stored_walk W _ rfl b la lc l hl a (by omega) w hw0 hw1 cb ct ca cp cy cg hfc
end Go.Proofs.Ytgfkjlknkbdjiaa
