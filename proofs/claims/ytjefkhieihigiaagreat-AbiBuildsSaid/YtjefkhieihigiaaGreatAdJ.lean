/- AbiBuilds: the walk, where both build. -/
import Derived.Test.YtjefkhieihigiaaGreatAdI
namespace Go.Proofs.YtjefkhieihigiaaGreat
set_option linter.unusedVariables false
set_option linter.unusedSimpArgs false
open Go.Joins Go.ChangeShapes Go.WideShapes Go.ChangeAt Go.RowKit Go.Deep

theorem own_max {w : World} {B n c : Nat} {e : TypeId} {a : Option Addr} {xs : List Value} (h : w.ownsRow B e 1 (.slice a n c) n xs) : n ≤ 9223372036854775807 := by
  rcases h.2 with ⟨_, h0⟩ | ⟨g, cap, cur, hv, _, hg, hnc, hm, _⟩
  · omega
  · unfold maxLen at hm; omega
set_option maxRecDepth 100000 in
set_option maxHeartbeats 8000000 in
theorem builds_in (W : World) (b : Int) (f : Nat) (p : Int) (a1 a2 a3 : Option Addr) (c1 c2 c3 : Nat) (l1 l2 : List (List UInt8)) (k : List Cp) (hf : f < 18446744073709551616) (r1 : Rd W a1 l1.length (strs l1)) (r2 : Rd W a2 l2.length (strs l2)) (r3 : Rd W a3 (k.length * 6) (capsV k)) (hk : k.length ≤ maxLen) (hfit : ∀ c ∈ k, FitC c)
    (q1 : ∀ t ∈ l1, t.length ≤ 140737488351232) (q2 : ∀ t ∈ l2, t.length ≤ 140737488351232)
    (hq : (k.all rightB && decide (k.length ≤ 20)) = true) (hbb : badB b = false) (p0 : -9 ≤ p) (p1 : p ≤ 300) (n1 : l1.length ≤ 20) (n2 : l2.length ≤ 20) :
    Calls Tryz.prog 3 #[.int .i64 b, .int .u64 (f : Int), .int .i64 p, .slice a1 l1.length c1, .slice a2 l2.length c2, .slice a3 k.length c3] W fun e W' => e = .returned (.bool true) ∧ Below W.heap.size W W' := by
  have HA := Lib.hid (awake_any W)
  have HR := Lib.hid (fun w (hb : Below W.heap.size W w) => rights_any a3 c3 k w (r3.below hb) (max_lt3 hk))
  have n3 : k.length ≤ 20 := by rw [Bool.and_eq_true, decide_eq_true_eq] at hq; exact hq.2
  have hal : k.all rightB = true := by rw [Bool.and_eq_true] at hq; exact hq.1
  have f3 := perm_right hal
  rw [hq] at HR
  have HN := Lib.hid (fun w => snew_any b hbb w)
  have HN2 := Lib.hid (fun w => rnew_yes b hbb w)
  obtain ⟨mA, hmA⟩ : ∃ mA, (mapF (emptyM b.toNat) 3 1).1 = mA := ⟨_, rfl⟩
  have s1 := lensN_max l1 140737488351232 q1
  have s2 := lensN_max l2 140737488351232 q2
  obtain ⟨e0, e9⟩ := needW_big l1 l2 k.length (by omega) (by omega) (by omega) (by omega)
  have HND := Lib.hid (fun w (hb : Below W.heap.size W w) => need_mod a1 a2 a3 c1 c2 c3 k.length l1 l2 w (r1.below hb) (r2.below hb) (by omega) (by omega) (by omega))
  rw [e0] at HND
  have HRN := Lib.hid (fun w (hb : Below W.heap.size W w) => rneed_any a1 a2 a3 c1 c2 c3 k.length l1 l2 w (r1.below hb) (r2.below hb) (by omega) (by omega) (by omega) (by omega))
  rw [e9] at HRN
  have HB := Lib.hid (fun (w : World) (M : Nat) (F : Nat → Prop) (hb : Below W.heap.size W w) (h : Own1 w W.heap.size F M mA) => build_any w W.heap.size M F mA f p a1 a2 a3 c1 c2 c3 l1 l2 k h (RdT.old h r1 hb rfl) (RdT.old h r2 hb rfl) (RdC.old h r3 hb rfl) hf (by omega) (by omega) (by omega) (by omega) (by omega) hfit)
  have HRB := Lib.hid (fun (w : World) (R : Nat) (G : Nat → Prop) (hb : Below W.heap.size W w) (h : ROw w W.heap.size G R mA) => rbuild_any w W.heap.size R G mA f p a1 a2 a3 c1 c2 c3 l1 l2 k h (r1.below hb) (r2.below hb) (RdC.oldR h r3 hb rfl) f3 hfit hf p0 p1 (strs_oldR h r1 rfl) (strs_oldR h r2 rfl) (by omega) (by omega) (by omega) (fun s hs => Nat.le_trans (q1 s hs) (by decide)) (fun s hs => Nat.le_trans (q2 s hs) (by decide)))
  obtain ⟨nd, hnd⟩ : ∃ nd : Nat, needN l1 l2 k.length = nd := ⟨_, rfl⟩
  rw [hnd] at HND HRN
  have HBD : Hid (∀ h : Okm mA, buildD mA f p l1 l2 k = buildF mA f p l1 l2 k) := Lib.hid (fun h => (build_doc h (by omega) l1 l2 k).symm)
  have d1 : decide (p < -9) = false := decide_eq_false (by omega)
  have d2 : decide (300 < p) = false := decide_eq_false (by omega)
  have d3 : decide ((20 : Int) < (l1.length : Int)) = false := decide_eq_false (by omega)
  have d4 : decide ((20 : Int) < (l2.length : Int)) = false := decide_eq_false (by omega)
  generalize l1.length = m1 at *
  generalize l2.length = m2 at *
  generalize k.length = m3 at *
  clear r1 r2 r3 hk hfit q1 q2 hq hbb p0 p1 n1 n2 n3 hal f3 s1 s2 e0 e9 hnd hf
  have HMA := Lib.hid hmA
  clear hmA
  go_enter Tryz.func3, Tryz.ntmps3
  go_wp2_with fail
  refine HA.out.mono ?_; rintro e W1 ⟨rfl, hb1⟩
  have B1 := Lib.hid hb1
  clear hb1 HA
  go_wp2_with fail
  refine (HR.out W1 B1.out).mono ?_; rintro e W2 ⟨rfl, hb⟩
  have B2 := Lib.hid (bTrans B1.out hb)
  clear hb HR B1
  go_wp2_with fail
  refine (HN.out W2).mono ?_; rintro e W3 ⟨M, F, rfl, ho3, hb3⟩
  have O3 := Lib.hid ho3
  have B23 := Lib.hid hb3
  clear ho3 hb3 HN
  go_wp2_with fail
  refine (HN2.out W3).mono ?_; rintro e W4 ⟨R, G, rfl, hr4, hb4⟩
  have B3 := Lib.hid (bTrans B2.out B23.out)
  have B4 := Lib.hid (bTrans B3.out hb4)
  have hp4 : PairD W4 W.heap.size F M (emptyM b.toNat) G R (emptyM b.toNat) := by
    have hs2 := B2.out.size
    have hs3 := B3.out.size
    have ho := O3.out.below hb4
    refine ⟨⟨ho.mem, fun q hq => Nat.le_trans hs2 (ho.ge q hq), B4.out.size⟩, ⟨hr4.mem, fun q hq => Nat.le_trans hs3 (hr4.ge q hq), B4.out.size⟩, fun q hq hg => ?_⟩
    have := O3.out.lt q hq
    have := hr4.ge q hg
    omega
  have P4 := Lib.hid hp4
  clear hp4 hr4 hb4 O3 B23 B2 B3 HN2
  have C := Lib.hid (smap_any W4 W.heap.size M F _ P4.out.own 3 1 (by decide) (by decide) (by decide) (by decide))
  rw [HMA.out] at C
  go_wp2_with fail
  refine C.out.mono ?_; rintro e W5 ⟨rfl, F5, h5, m5⟩
  obtain ⟨hp, hb⟩ := P4.out.m h5 m5
  have P5 := Lib.hid hp
  have B5 := Lib.hid (B4.out.trans hb)
  clear hp hb h5 m5 P4 B4 C
  have C := Lib.hid (rrmap_any W5 W.heap.size R G _ P5.out.row 3 1 (by decide) (by decide) (by decide) (by decide))
  rw [HMA.out] at C
  go_wp2_with fail
  refine C.out.mono ?_; rintro e W6 ⟨rfl, G6, h6, m6⟩
  obtain ⟨hp, hb⟩ := P5.out.r h6 m6
  have P6 := Lib.hid hp
  have B6 := Lib.hid (B5.out.trans hb)
  clear hp hb h6 m6 P5 B5 C HMA
  go_wp2_with fail
  refine (HND.out W6 B6.out).mono ?_; rintro e W7 ⟨rfl, hb⟩
  have P7 := Lib.hid (P6.out.below hb)
  have B7 := Lib.hid (bTrans B6.out hb)
  clear hb P6 B6 HND
  have hbd := HBD.out P7.out.own.ok
  have C1 := Lib.hid (HB.out W7 M F5 B7.out P7.out.own)
  obtain ⟨⟨mm, st, er⟩, hbf⟩ : ∃ q, buildF mA (f : Int) p l1 l2 k = q := ⟨_, rfl⟩
  rw [hbf] at hbd C1
  rw [hbd] at HRB
  simp only [] at C1 HRB
  clear hbd hbf HBD HB
  obtain ⟨V, hV⟩ : ∃ V, startV st = V := ⟨_, rfl⟩
  rw [hV] at C1 HRB
  have hv1 : V.size = 24 := by rw [← hV]; rfl
  have hv2 : V.all (·.oneCell') = true := by rw [← hV]; obtain ⟨⟨_, _, _, _, _, _⟩, ⟨_, _, _, _, _, _⟩, ⟨_, _, _, _, _, _⟩, ⟨_, _, _, _, _, _⟩⟩ := st; kernel_rfl
  have HV := Lib.hid (And.intro hV (And.intro hv1 hv2))
  clear hV hv1 hv2
  go_wp2_with fail
  refine C1.out.mono ?_; rintro e W8 ⟨rfl, F8, h8, m8⟩
  obtain ⟨hp, hb⟩ := P7.out.m h8 m8
  have P8 := Lib.hid hp
  have B8 := Lib.hid (B7.out.trans hb)
  clear hp hb h8 m8 P7 B7 C1
  simp only []
  go_at_K
  rename_i hK
  refine hK _ _ ?_
  clear hK
  refine Great.wpList_readTo rfl (some 77) rfl (.tuple #[.agg V, .int .i64 er]) rfl ?_
  refine Great.wpList_readTo rfl (some 85) rfl (.agg V) rfl ?_
  refine Great.wpList_readTo rfl (some 86) rfl (.int .i64 er) rfl ?_
  refine Great.wpList_allocTo rfl (some 20) rfl (.pointer (some ⟨W8.heap.size, 0, none⟩)) (.cells zero24 39) (by kernel_rfl) ?_
  refine wpList_store_mid rfl _ _ _ rfl W8.heap.size 0 V rfl rfl (by rw [HV.out.2.1]; exact (BoxN.new W8 zero24 39).there) (by rw [HV.out.2.1]; exact startSize) HV.out.2.2 ?_
  have hz := box_new W8 V HV.out.2.1
  have hb4 : Below W8.heap.size W8 ((W8.alloc (.cells zero24 39)).setCells W8.heap.size 0 V.toList) := below_setCells _ (Nat.le_refl _) _ _ _ (bAlloc (Below.refl _ _) _)
  obtain ⟨W9, hW4⟩ : ∃ W4, (W8.alloc (.cells zero24 39)).setCells W8.heap.size 0 V.toList = W4 := ⟨_, rfl⟩
  rw [hW4] at hz hb4
  (try rw [hW4])
  clear hW4
  have P9 := Lib.hid (P8.out.below hb4)
  have B9 := Lib.hid (bTrans B8.out hb4)
  have Z9 := Lib.hid hz
  obtain ⟨X1, hX1⟩ : ∃ X, W8.heap.size = X := ⟨_, rfl⟩
  have HX1 : Hid (X1 < W9.heap.size) := Lib.hid (by rw [← hX1]; exact hz.lt)
  have HX1N : Hid (W.heap.size ≤ X1) := Lib.hid (by rw [← hX1]; exact B8.out.size)
  have HX1G : Hid (¬ G6 X1) := Lib.hid (fun hg => by have := P8.out.row.lt _ hg; omega)
  rw [hX1] at Z9 ⊢
  clear hz hb4 P8 B8 hX1
  have C1 := Lib.hid (HRB.out W9 R G6 B9.out P9.out.row)
  clear HRB
  go_wp2_with fail
  refine C1.out.mono ?_; rintro e W10 ⟨rfl, G10, h10, m10⟩
  obtain ⟨hp, hb⟩ := P9.out.r h10 m10
  have P10 := Lib.hid hp
  have B10 := Lib.hid (B9.out.trans hb)
  have Z10 := Lib.hid (Z9.out.kp m10.kp Z9.out.lt HX1G.out)
  clear hp hb h10 m10 P9 B9 C1 Z9 HX1 HX1N HX1G
  simp only []
  go_at_K
  rename_i hK
  refine hK _ _ ?_
  clear hK
  refine Great.wpList_readTo rfl (some 87) rfl (.tuple #[.agg V, .int .i64 er]) rfl ?_
  refine Great.wpList_readTo rfl (some 95) rfl (.agg V) rfl ?_
  refine Great.wpList_readTo rfl (some 96) rfl (.int .i64 er) rfl ?_
  refine Great.wpList_allocTo rfl (some 22) rfl (.pointer (some ⟨W10.heap.size, 0, none⟩)) (.cells zero24 42) (by kernel_rfl) ?_
  refine wpList_store_mid rfl _ _ _ rfl W10.heap.size 0 V rfl rfl (by rw [HV.out.2.1]; exact (BoxN.new W10 zero24 42).there) (by rw [HV.out.2.1]; exact startSizeD) HV.out.2.2 ?_
  have hz := box_newD W10 V HV.out.2.1
  have hb4 : Below W10.heap.size W10 ((W10.alloc (.cells zero24 42)).setCells W10.heap.size 0 V.toList) := below_setCells _ (Nat.le_refl _) _ _ _ (bAlloc (Below.refl _ _) _)
  obtain ⟨W11, hW4⟩ : ∃ W4, (W10.alloc (.cells zero24 42)).setCells W10.heap.size 0 V.toList = W4 := ⟨_, rfl⟩
  rw [hW4] at hz hb4
  (try rw [hW4])
  clear hW4
  have P11 := Lib.hid (P10.out.below hb4)
  have B11 := Lib.hid (bTrans B10.out hb4)
  have Y11 := Lib.hid hz
  have Z11 := Lib.hid (boxN_below Z10.out hb4)
  obtain ⟨X2, hX2⟩ : ∃ X, W10.heap.size = X := ⟨_, rfl⟩
  rw [hX2] at Y11 ⊢
  clear hz hb4 P10 B10 hX2 Z10
  have C := Lib.hid (spages_any W11 W.heap.size M F8 mm P11.out.own)
  have D := Lib.hid (fun w (hb : Below W11.heap.size W11 w) => stags_any w W.heap.size M F8 mm (P11.out.own.below hb))
  obtain ⟨na, ca, ka, nc, cc, kc, cs, hR⟩ := P11.out.row.mem
  have X4 := Lib.hid hR.box
  have N4 := Lib.hid hR.rn.1
  have K4 := Lib.hid hR.rk.1
  have HPL : Hid (∀ x ∈ mm.pgs, x < 65536) := Lib.hid hR.ok.pl
  clear hR
  obtain ⟨P, hP⟩ : ∃ x, mm.pgs = x := ⟨_, rfl⟩
  obtain ⟨T, hT⟩ : ∃ x, mm.mks.map (32 * ·) = x := ⟨_, rfl⟩
  have hT2 : mm.mks.length = T.length := by rw [← hT, List.length_map]
  rw [hP] at C N4 X4 HPL
  rw [hT2] at D X4 K4
  rw [hT] at D K4
  clear hP hT hT2
  obtain ⟨pn, hp⟩ : ∃ x, P.length = x := ⟨_, rfl⟩
  obtain ⟨tn, ht⟩ : ∃ x, T.length = x := ⟨_, rfl⟩
  rw [hp] at C N4 X4
  rw [ht] at D X4 K4
  have HPN := Lib.hid hp
  clear hp ht
  go_wp2_with fail
  refine C.out.mono ?_
  rintro e W12 ⟨pa, pc, rfl, hor, hb⟩
  have Q12 := Lib.hid (row_later hor (Below.refl _ _))
  have hp0 := own_max hor
  have C := Lib.hid (D.out W12 hb)
  have P12 := Lib.hid (P11.out.below hb)
  have X12 := Lib.hid (boxN_below X4.out hb)
  have N12 := Lib.hid (N4.out.below hb)
  have K12 := Lib.hid (K4.out.below hb)
  have Z12 := Lib.hid (boxN_below Z11.out hb)
  have Y12 := Lib.hid (boxN_below Y11.out hb)
  have B12 := Lib.hid (bTrans B11.out hb)
  clear hor hb D X4 N4 K4 Z11 Y11 B11 P11
  go_wp2_with fail
  refine C.out.mono ?_
  rintro e W13 ⟨ta, tc, rfl, hor, hb⟩
  have T13 := Lib.hid (row_later hor (Below.refl _ _))
  have ht0 := own_max hor
  have Q13 := Lib.hid (Q12.out.below hb)
  have P13 := Lib.hid (P12.out.below hb)
  have X13 := Lib.hid (boxN_below X12.out hb)
  have N13 := Lib.hid (N12.out.below hb)
  have K13 := Lib.hid (K12.out.below hb)
  have Z13 := Lib.hid (boxN_below Z12.out hb)
  have Y13 := Lib.hid (boxN_below Y12.out hb)
  have B13 := Lib.hid (bTrans B12.out hb)
  clear hor hb C X12 N12 K12 Z12 Y12 B12 P12 Q12
  go_wp2_with fail
  refine (HRN.out W13 B13.out).mono ?_
  rintro e W14 ⟨rfl, rfl⟩
  have w0 : W13.cell? ⟨R, 0, none⟩ = some (.slice na pn nc) := X13.out.cell 0
  have w2 : W13.cell? ⟨R, 2, none⟩ = some (.slice ka tn kc) := X13.out.cell 2
  have C := Lib.hid (usame_any pa na pn pc pn nc P P W13 Q13.out N13.out (by omega) (by omega))
  clear HRN
  go_wp2_with fail
  refine C.out.mono ?_
  rintro e W14 ⟨rfl, hb⟩
  have X14 := Lib.hid (boxN_below X13.out hb)
  have w0' : W14.cell? ⟨R, 0, none⟩ = some (.slice na pn nc) := X14.out.cell 0
  have w2' : W14.cell? ⟨R, 2, none⟩ = some (.slice ka tn kc) := X14.out.cell 2
  have C := Lib.hid (usame_any ta ka tn tc tn kc T T W14 (T13.out.below hb) (K13.out.below hb) (by omega) (by omega))
  have Q14 := Lib.hid (Q13.out.below hb)
  have P14 := Lib.hid (P13.out.below hb)
  have Z14 := Lib.hid (boxN_below Z13.out hb)
  have Y14 := Lib.hid (boxN_below Y13.out hb)
  have B14 := Lib.hid (bTrans B13.out hb)
  clear hb w0 w2 w0' X13 N13 K13 T13 Z13 Y13 B13 P13 Q13 X14
  go_wp2_with fail
  refine C.out.mono ?_
  rintro e W15 ⟨rfl, hb⟩
  have Q15 := Lib.hid (Q14.out.below hb)
  have P15 := Lib.hid (P14.out.below hb)
  have Z15 := Lib.hid (boxN_below Z14.out hb)
  have Y15 := Lib.hid (boxN_below Y14.out hb)
  have B15 := Lib.hid (bTrans B14.out hb)
  clear hb C w2' Z14 Y14 B14 P14 Q14
  have HP0 := Lib.hid hp0
  clear ht0 hp0
  go_wp2_with fail
  go_loopw [26] (fun i wr => ∃ q : Nat, i = .int .i64 (q : Int) ∧ q ≤ pn ∧ q ≤ 20 ∧ Hid (Below W15.heap.size W15 wr)) (fun i _ => pn - (intOf i).toNat)
  case atStart => exact ⟨0, rfl, Nat.zero_le _, Nat.zero_le _, Lib.hid (Below.refl _ _)⟩
  case round =>
    obtain ⟨q, rfl, hq, hq2, HB⟩ := hrel
    have hp0 := HP0.out
    by_cases hgo : q < pn ∧ q < 20
    · obtain ⟨g1, g2⟩ := hgo
      obtain ⟨g, off, hge, -, hc⟩ := (Q15.out.below HB.out).at_ g1
      subst hge
      have hql : q < P.length := by rw [HPN.out]; exact g1
      have hpl := HPL.out P[q] (List.getElem_mem hql)
      have hcc : (u64s P)[q]? = some (.int .u64 (P[q] : Int)) := by simp [u64s, hql]
      rw [hcc] at hc
      obtain ⟨pg, hpg⟩ : ∃ pg, P[q] = pg := ⟨_, rfl⟩
      rw [hpg] at hc hpl
      have hw1 : IntKind.u64.wrap (256 * (pg : Int)) = ((256 * pg : Nat) : Int) := by rw [IntKind.wrap_u64]; omega
      have C1 := Lib.hid (fun w (hb : Below wr.heap.size wr w) => sbytes_any w W.heap.size M F8 mm ((P15.out.below HB.out).own.below hb) (256 * pg) 256 (by omega) (by decide) (by decide))
      have C2 := Lib.hid (fun w (hb : Below wr.heap.size wr w) => rbytes_any w R G10 mm ((P15.out.below HB.out).row.below hb).mem (256 * pg) 256 (by omega))
      obtain ⟨bt, hbt⟩ : ∃ bt, bytesF mm ((256 * pg : Nat) : Int) 256 = bt := ⟨_, rfl⟩
      rw [hbt] at C1 C2
      have hk0 : wr.cell? ⟨g, off + q, none⟩ = some (.int .u64 (pg : Int)) := hc
      have hlt := heap_lt_of_cell hk0
      have HKP := Lib.hid (fun (w : World) (hb : Below wr.heap.size wr w) => (hb.cell (p := ⟨g, off + q, none⟩) hlt).trans hk0)
      have HN0 := Lib.hid (Below.refl wr.heap.size wr)
      have kk0 : (0 : Int) ≤ (q : Int) := by omega
      have kk1 : (q : Int) < (pn : Int) := by omega
      have kk2 : (q : Int) < 20 := by omega
      have hd1 : decide ((q : Int) < (pn : Int)) = true := decide_eq_true kk1
      have hd2 : decide ((q : Int) < 20) = true := decide_eq_true kk2
      have HC := Lib.hid hc
      clear hql hpl hcc hpg hbt hlt hc
      go_upto_region 19 with fail
      go_region_held3 (fun w => w.cell? ⟨g, off + q, none⟩ = some (.int .u64 (pg : Int)))
        (first | exact HKP.out _ (by first | ((repeat (first | with_reducible exact HB3.out | with_reducible exact HB2.out | with_reducible exact HB1.out | with_reducible exact HN0.out | with_reducible refine Below.drew ?_ | with_reducible refine bAlloc ?_ _)); done) | fail))
        (first
          | (go_at_call 17; refine (same_any ra rb _ rca _ rcb bt bt w2 RA2.out RB2.out (by have := RB0.out; omega) (by have := RB0.out; omega)).mono ?_; rintro e w3 ⟨rfl, hq3⟩; have HB3 : Hid (Below wr.heap.size wr w3) := Lib.hid (by obtain ⟨nn, hh⟩ := hq3; rw [hh]; exact bTrans HB2.out (below_drewN _ nn)); clear hq3)
          | (go_at_call 19; refine (C2.out w1 HB1.out).mono ?_; rintro e w2 ⟨⟨rb, rcb, rfl, hor⟩, hb⟩; have RB2 := Lib.hid (row_later hor (Below.refl _ _)); have RA2 := Lib.hid (RA1.out.below hb); have RB0 := Lib.hid (own_max hor); have HB2 := Lib.hid (bTrans HB1.out hb); clear hor hb)
          | (go_at_call 18; refine (C1.out _ (by first | exact HN0.out | exact Below.drew HN0.out)).mono ?_; rintro e w1 ⟨⟨ra, rca, rfl, hor⟩, hb⟩; have RA1 := Lib.hid (row_later hor (Below.refl _ _)); have HB1 : Hid (Below wr.heap.size wr w1) := Lib.hid (by first | exact undrewB hb | exact hb); clear hor hb))
      clear hk0 hd1 hd2 C1 C2 HKP HN0 hw1
      go_wp2_with fail
      go_roundw
      case rel => exact ⟨q + 1, by go_num, by omega, by omega, Lib.hid (bTrans HB.out HB3.out)⟩
      case measure => simp [intOf]; omega
    · have hz := boxN_below Z15.out HB.out
      have hy := boxN_below Y15.out HB.out
      have BZ := Lib.hid (bTrans B15.out HB.out)
      obtain ⟨⟨z0, z1, z2, z3, z4, z5⟩, ⟨z6, z7, z8, z9, z10, z11⟩, ⟨z12, z13, z14, z15, z16, z17⟩, ⟨z18, z19, z20, z21, z22, z23⟩⟩ := st
      rw [← HV.out.1] at hz hy
      unfold startV capC at hz hy
      simp only [List.cons_append, List.nil_append] at hz hy
      have a0 : wr.cell? ⟨X1, 0, none⟩ = some (.int .u64 z0) := hz.cell 0
      have e0 : wr.cell? ⟨X2, 0, none⟩ = some (.int .u64 z0) := hy.cell 0
      have a1 : wr.cell? ⟨X1, 1, none⟩ = some (.int .u64 z1) := hz.cell 1
      have e1 : wr.cell? ⟨X2, 1, none⟩ = some (.int .u64 z1) := hy.cell 1
      have a2 : wr.cell? ⟨X1, 2, none⟩ = some (.int .u64 z2) := hz.cell 2
      have e2 : wr.cell? ⟨X2, 2, none⟩ = some (.int .u64 z2) := hy.cell 2
      have a3 : wr.cell? ⟨X1, 3, none⟩ = some (.int .i64 z3) := hz.cell 3
      have e3 : wr.cell? ⟨X2, 3, none⟩ = some (.int .i64 z3) := hy.cell 3
      have a4 : wr.cell? ⟨X1, 4, none⟩ = some (.int .i64 z4) := hz.cell 4
      have e4 : wr.cell? ⟨X2, 4, none⟩ = some (.int .i64 z4) := hy.cell 4
      have a5 : wr.cell? ⟨X1, 5, none⟩ = some (.bool z5) := hz.cell 5
      have e5 : wr.cell? ⟨X2, 5, none⟩ = some (.bool z5) := hy.cell 5
      have a6 : wr.cell? ⟨X1, 6, none⟩ = some (.int .u64 z6) := hz.cell 6
      have e6 : wr.cell? ⟨X2, 6, none⟩ = some (.int .u64 z6) := hy.cell 6
      have a7 : wr.cell? ⟨X1, 7, none⟩ = some (.int .u64 z7) := hz.cell 7
      have e7 : wr.cell? ⟨X2, 7, none⟩ = some (.int .u64 z7) := hy.cell 7
      have a8 : wr.cell? ⟨X1, 8, none⟩ = some (.int .u64 z8) := hz.cell 8
      have e8 : wr.cell? ⟨X2, 8, none⟩ = some (.int .u64 z8) := hy.cell 8
      have a9 : wr.cell? ⟨X1, 9, none⟩ = some (.int .i64 z9) := hz.cell 9
      have e9 : wr.cell? ⟨X2, 9, none⟩ = some (.int .i64 z9) := hy.cell 9
      have a10 : wr.cell? ⟨X1, 10, none⟩ = some (.int .i64 z10) := hz.cell 10
      have e10 : wr.cell? ⟨X2, 10, none⟩ = some (.int .i64 z10) := hy.cell 10
      have a11 : wr.cell? ⟨X1, 11, none⟩ = some (.bool z11) := hz.cell 11
      have e11 : wr.cell? ⟨X2, 11, none⟩ = some (.bool z11) := hy.cell 11
      have a12 : wr.cell? ⟨X1, 12, none⟩ = some (.int .u64 z12) := hz.cell 12
      have e12 : wr.cell? ⟨X2, 12, none⟩ = some (.int .u64 z12) := hy.cell 12
      have a13 : wr.cell? ⟨X1, 13, none⟩ = some (.int .u64 z13) := hz.cell 13
      have e13 : wr.cell? ⟨X2, 13, none⟩ = some (.int .u64 z13) := hy.cell 13
      have a14 : wr.cell? ⟨X1, 14, none⟩ = some (.int .u64 z14) := hz.cell 14
      have e14 : wr.cell? ⟨X2, 14, none⟩ = some (.int .u64 z14) := hy.cell 14
      have a15 : wr.cell? ⟨X1, 15, none⟩ = some (.int .i64 z15) := hz.cell 15
      have e15 : wr.cell? ⟨X2, 15, none⟩ = some (.int .i64 z15) := hy.cell 15
      have a16 : wr.cell? ⟨X1, 16, none⟩ = some (.int .i64 z16) := hz.cell 16
      have e16 : wr.cell? ⟨X2, 16, none⟩ = some (.int .i64 z16) := hy.cell 16
      have a17 : wr.cell? ⟨X1, 17, none⟩ = some (.bool z17) := hz.cell 17
      have e17 : wr.cell? ⟨X2, 17, none⟩ = some (.bool z17) := hy.cell 17
      have a18 : wr.cell? ⟨X1, 18, none⟩ = some (.int .u64 z18) := hz.cell 18
      have e18 : wr.cell? ⟨X2, 18, none⟩ = some (.int .u64 z18) := hy.cell 18
      have a19 : wr.cell? ⟨X1, 19, none⟩ = some (.int .u64 z19) := hz.cell 19
      have e19 : wr.cell? ⟨X2, 19, none⟩ = some (.int .u64 z19) := hy.cell 19
      have a20 : wr.cell? ⟨X1, 20, none⟩ = some (.int .u64 z20) := hz.cell 20
      have e20 : wr.cell? ⟨X2, 20, none⟩ = some (.int .u64 z20) := hy.cell 20
      have a21 : wr.cell? ⟨X1, 21, none⟩ = some (.int .i64 z21) := hz.cell 21
      have e21 : wr.cell? ⟨X2, 21, none⟩ = some (.int .i64 z21) := hy.cell 21
      have a22 : wr.cell? ⟨X1, 22, none⟩ = some (.int .i64 z22) := hz.cell 22
      have e22 : wr.cell? ⟨X2, 22, none⟩ = some (.int .i64 z22) := hy.cell 22
      have a23 : wr.cell? ⟨X1, 23, none⟩ = some (.bool z23) := hz.cell 23
      have e23 : wr.cell? ⟨X2, 23, none⟩ = some (.bool z23) := hy.cell 23
      clear hz hy
      by_cases h1 : q < pn
      · have kk1 : (q : Int) < (pn : Int) := by omega
        have hd1 : decide ((q : Int) < (pn : Int)) = true := decide_eq_true kk1
        have hd2 : decide ((q : Int) < 20) = false := decide_eq_false (by omega)
        clear hgo
        go_wp2_with fail
        go_ret
        exact ⟨by simp, BZ.out⟩
      · have hd1 : decide ((q : Int) < (pn : Int)) = false := decide_eq_false (by omega)
        clear hgo
        go_wp2_with fail
        go_ret
        exact ⟨by simp, BZ.out⟩

theorem AbiBuilds_walk (W : World) (b f p : Int) (a1 a2 a3 : Option Addr) (c1 c2 c3 : Nat) (l1 l2 : List (List UInt8)) (k : List Cp) (f0 : 0 ≤ f) (f1 : f < 18446744073709551616) (r1 : Rd W a1 l1.length (strs l1)) (r2 : Rd W a2 l2.length (strs l2)) (r3 : Rd W a3 (k.length * 6) (capsV k)) (hk : k.length ≤ maxLen) (hin : ∀ c ∈ k, InC c) (q1 : ∀ t ∈ l1, t.length ≤ 140737488351232) (q2 : ∀ t ∈ l2, t.length ≤ 140737488351232) :
    Calls Tryz.prog 3 #[.int .i64 b, .int .u64 f, .int .i64 p, .slice a1 l1.length c1, .slice a2 l2.length c2, .slice a3 k.length c3] W fun e W' => e = .returned (.bool true) ∧ Below W.heap.size W W' := by
  obtain ⟨n, rfl⟩ : ∃ n : Nat, f = (n : Int) := ⟨f.toNat, by omega⟩
  by_cases hq : (k.all rightB && decide (k.length ≤ 20)) = true
  · by_cases hb : badB b = false
    · by_cases h1 : p < -9
      · exact builds_out W b n p a1 a2 a3 c1 c2 c3 _ _ k r3 hk (Or.inr (Or.inr (Or.inl h1)))
      by_cases h2 : 300 < p
      · exact builds_out W b n p a1 a2 a3 c1 c2 c3 _ _ k r3 hk (Or.inr (Or.inr (Or.inr (Or.inl h2))))
      by_cases h3 : 20 < l1.length
      · exact builds_out W b n p a1 a2 a3 c1 c2 c3 _ _ k r3 hk (Or.inr (Or.inr (Or.inr (Or.inr (Or.inl h3)))))
      by_cases h4 : 20 < l2.length
      · exact builds_out W b n p a1 a2 a3 c1 c2 c3 _ _ k r3 hk (Or.inr (Or.inr (Or.inr (Or.inr (Or.inr h4)))))
      exact builds_in W b n p a1 a2 a3 c1 c2 c3 l1 l2 k (by omega) r1 r2 r3 hk (fun c hc => (hin c hc).fit) q1 q2 hq hb (by omega) (by omega) (by omega) (by omega)
    · exact builds_out W b n p a1 a2 a3 c1 c2 c3 _ _ k r3 hk (Or.inr (Or.inl (by simpa using hb)))
  · exact builds_out W b n p a1 a2 a3 c1 c2 c3 _ _ k r3 hk (Or.inl (by simpa using hq))
end Go.Proofs.YtjefkhieihigiaaGreat
