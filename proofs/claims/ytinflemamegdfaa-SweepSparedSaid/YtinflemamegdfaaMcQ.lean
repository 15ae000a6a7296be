/- SweepSpared: the walk. -/
import Derived.Test.YtinflemamegdfaaMcP
namespace Go.Proofs.Ytinflemamegdfaa
set_option linter.unusedVariables false
set_option linter.unusedSimpArgs false
open Go.Joins Go.ChangeShapes Go.WideShapes Go.ChangeAt Go.RowKit Go.Deep

theorem swR_at (f n ty : Int) (rs : List Cp) (k : Nat) (h1 : 1 ≤ k) (hk : k < rs.length) : (swR f n ty rs)[k]'(by rw [swR_len]; exact hk) = swp f n ty rs[k] := by
  unfold swR
  rw [List.getElem_append_right (by rw [List.length_take]; omega), List.getElem_map, List.getElem_drop]
  congr 1
  congr 1
  rw [List.length_take]; omega
set_option maxRecDepth 100000 in
set_option maxHeartbeats 8000000 in
theorem SweepSpared_walk (W : World) (pc : Cp) (pa : Option Addr) (pcap : Nat) (l : List Pt) (f n ty : Int) (hp : RdPt W pa l) (hm : l.length < 9223372036854775808) (hfp : FitC pc) (hfl : ∀ p ∈ l, FitC p.c) (f0 : 0 ≤ f) (f1 : f < 18446744073709551616) (n0 : 0 ≤ n) (n1 : n < 18446744073709551616) :
    Calls Try.prog 5 #[.agg (capC pc).toArray, .slice pa l.length pcap, .int .u64 f, .int .u64 n, .int .i64 ty] W fun e W' => e = .returned (.bool true) ∧ Below W.heap.size W W' := by
  have CB := Lib.hid (fun w (hb : Below W.heap.size W w) => both_any w pc pa pcap l (hp.below hb) hm hfp hfl)
  have CS := Lib.hid (fun (w : World) (N M A : Nat) (F : Nat → Prop) (m : Mm) (rs : List Cp) (h1 : Own1 w N F M m) (h2 : McAt w A M pc rs) (h3 : ¬ F A) => psweep_any w N M A F m pc rs f n ty h1 h2 h3)
  have CT := Lib.hid (fun c w (hc : FitC c) => rtch_any c f n ty w hc f0 f1 n0 n1)
  have HFP := Lib.hid hfp
  obtain ⟨cb, ct, ca, cp, cy, cg⟩ := pc
  rw [show (capC ⟨cb, ct, ca, cp, cy, cg⟩).toArray = #[.int .u64 cb, .int .u64 ct, .int .u64 ca, .int .i64 cp, .int .i64 cy, .bool cg] from rfl] at CB ⊢
  generalize l.length = pn at *
  clear hp hm hfp hfl f0 f1 n0 n1
  go_enter Try.func5, Try.ntmps5
  go_wp2_with fail
  refine (awake_any _).mono ?_; rintro e W1 ⟨rfl, hb⟩
  have B1 := Lib.hid (bTrans (bAlloc (Below.refl _ _) _) hb)
  have X1 := boxN_below (BoxN.new W #[.int .u64 cb, .int .u64 ct, .int .u64 ca, .int .i64 cp, .int .i64 cy, .bool cg] 24) hb
  obtain ⟨⟨x0, x1, x2, x3, x4, x5⟩, -⟩ := boxN6 X1
  clear hb X1
  go_wp2_with fail
  refine (CB.out W1 B1.out).mono ?_; rintro e W2 ⟨hb, hno | ⟨A, B, M, R, F, G, mm, rs, rfl, hs⟩⟩
  · have B2 := Lib.hid (B1.out.trans (hb.mono B1.out.size))
    unfold NoBoth at hno
    subst hno
    clear hb x0 x1 x2 x3 x4 x5 B1
    go_wp2_with fail
    go_ret
    exact ⟨rfl, B2.out⟩
  have B2 := Lib.hid (B1.out.trans (hb.mono B1.out.size))
  have S2 := Lib.hid hs
  obtain ⟨N, hN⟩ : ∃ N, W1.heap.size = N := ⟨_, rfl⟩
  rw [hN] at S2
  have HN : Hid (W.heap.size ≤ N ∧ N ≤ W2.heap.size) := Lib.hid ⟨by rw [← hN]; exact B1.out.size, by rw [← hN]; exact hb.size⟩
  clear hb hs x0 x1 x2 x3 x4 x5 B1 CB hN
  have HSP := Lib.hid (fun (y : Nat) (hy : y % 32 = 0) => sw_spared S2.out.own.ok f n ty y hy)
  have C := Lib.hid (CS.out W2 N M A F mm rs S2.out.own S2.out.ma S2.out.fa)
  have hsame := sw_same S2.out.own.ok f n ty
  rw [hsame] at C
  have HSA := Lib.hid (fun k h1 hk => swR_at f n ty rs k h1 hk)
  have HSWP0 : Hid (swp f n ty ⟨cb, ct, ca, cp, cy, cg⟩ = if tch f n ty ⟨cb, ct, ca, cp, cy, cg⟩ = true then clrC ⟨cb, ct, ca, cp, cy, cg⟩ else ⟨cb, ct, ca, cp, cy, cg⟩) := Lib.hid rfl
  obtain ⟨m2, hm2⟩ : ∃ m2, (swD mm (gran f n ty mm)).1 = m2 := ⟨_, rfl⟩
  rw [hm2] at C HSP
  obtain ⟨spc, hspc⟩ : ∃ p, swp f n ty ⟨cb, ct, ca, cp, cy, cg⟩ = p := ⟨_, rfl⟩
  rw [hspc] at C HSWP0
  have hql := swR_len f n ty rs
  rw [S2.out.ma.len] at hql
  have HRL := Lib.hid (And.intro S2.out.ma.len hql)
  have HFR := Lib.hid S2.out.fit
  clear hsame hm2 hspc hql CS
  go_wp2_with fail
  refine C.out.mono ?_; rintro e W5 ⟨rfl, F5, h5, hsub, hna, hma, hk⟩
  have O5 := Lib.hid h5
  have A5 := Lib.hid hma
  have R5 := Lib.hid (S2.out.rma.kp hk (Nat.le_refl _) (fun b hb hg => by
    rcases hg with e | e
    · exact S2.out.fg b e hb
    · exact S2.out.ga (e ▸ hb)))
  have M5 := Lib.hid (S2.out.mb.kp hk S2.out.mb.lt (fun e => by rcases e with e | e; exact S2.out.fb e; exact S2.out.ab e.symm))
  have hN5 : Below N W2 W5 := hk.to_below (m := N) HN.out.2 (fun b hb hg => by
    rcases hg with e | e
    · have := S2.out.own.ge b e; omega
    · have := S2.out.na; omega)
  have B5 := Lib.hid (B2.out.trans (hN5.mono HN.out.1))
  clear h5 hsub hna hma hk hN5 S2 B2 C
  go_wp2_with fail
  go_loopw [14, 15, 16, 17] (fun i q1 q2 q3 wr => ∃ k : Nat, i = .int .i64 (k : Int) ∧ k ≤ 32 ∧ Hid (McAt wr A M spc (swR f n ty rs)) ∧ Hid (McAt wr B R ⟨cb, ct, ca, cp, cy, cg⟩ rs) ∧ Hid (Own1 wr N F5 M m2) ∧ Hid (RmAt wr R G mm) ∧ Hid (Below W.heap.size W wr)) (fun i _ _ _ _ => 32 - (intOf i).toNat)
  case atStart => exact ⟨0, rfl, by omega, A5, M5, O5, R5, B5⟩
  case round =>
    obtain ⟨k, rfl, hk, HA, HB, HO, HR, HBL⟩ := hrel
    clear A5 M5 O5 R5 B5
    by_cases hlt : k < 32
    · have hd1 : decide ((k : Int) < 32) = true := decide_eq_true (by omega)
      have kk0 : (0 : Int) ≤ (k : Int) := by omega
      have kk1 : (k : Int) < 32 := by omega
      have HLT := Lib.hid hlt
      have hpa := range6 HA.out.pcAt
      have hpb := range6 HB.out.pcAt
      simp only [Nat.zero_add] at hpa hpb
      obtain ⟨p0, p1, p2, p3, p4, p5⟩ := hpb
      obtain ⟨q0, q1, q2, q3, q4, q5⟩ := hpa
      (try simp only [] at p0 p1 p2 p3 p4 p5)
      have HSPC := HSWP0
      obtain ⟨sb, st, sa, sp, sy, sg⟩ := spc
      (try simp only [] at q0 q1 q2 q3 q4 q5)
      have hAl : A < wr.heap.size := HA.out.lt
      have hBl : B < wr.heap.size := HB.out.lt
      clear hk hlt
      go_upto_if 56 with fail
      obtain ⟨W7, hW7⟩ : ∃ W7, (wr.alloc (.cells #[.int .u64 cb, .int .u64 ct, .int .u64 ca, .int .i64 cp, .int .i64 cy, .bool cg] 24)).alloc (.cells #[.int .u64 sb, .int .u64 st, .int .u64 sa, .int .i64 sp, .int .i64 sy, .bool sg] 24) = W7 := ⟨_, rfl⟩
      (try rw [hW7])
      obtain ⟨P1, hP1⟩ : ∃ P, wr.heap.size = P := ⟨_, rfl⟩
      (try rw [hP1])
      obtain ⟨P2, hP2⟩ : ∃ P, P1 + 1 = P := ⟨_, rfl⟩
      (try rw [hP2])
      have hb7 : Below wr.heap.size wr W7 := by rw [← hW7]; exact bAlloc (bAlloc (Below.refl _ _) _) _
      have hx1 : BoxN W7 P1 #[.int .u64 cb, .int .u64 ct, .int .u64 ca, .int .i64 cp, .int .i64 cy, .bool cg] := by rw [← hW7, ← hP1]; exact boxN_below (BoxN.new wr _ _) (bAlloc (Below.refl _ _) _)
      have hx2 : BoxN W7 P2 #[.int .u64 sb, .int .u64 st, .int .u64 sa, .int .i64 sp, .int .i64 sy, .bool sg] := by
        rw [← hW7, ← hP2, ← hP1, ← size_alloc wr (.cells #[.int .u64 cb, .int .u64 ct, .int .u64 ca, .int .i64 cp, .int .i64 cy, .bool cg] 24)]
        exact BoxN.new _ _ _
      have HP12 : Hid (P1 ≠ P2 ∧ A < P1 ∧ B < P1 ∧ W.heap.size ≤ P1) := Lib.hid ⟨by omega, by rw [← hP1]; exact HA.out.lt, by rw [← hP1]; exact HB.out.lt, by rw [← hP1]; exact HBL.out.size⟩
      have HP1 : Hid (¬ F5 P1 ∧ ¬ G P1) := Lib.hid ⟨fun h => by have := HO.out.lt P1 h; omega, fun h => by have := HR.out.lt P1 h; omega⟩
      have HP2 : Hid (¬ F5 P2 ∧ ¬ G P2 ∧ A < P2 ∧ B < P2 ∧ W.heap.size ≤ P2) := Lib.hid ⟨fun h => by have := HO.out.lt P2 h; omega, fun h => by have := HR.out.lt P2 h; omega, by have := HP12.out; omega, by have := HP12.out; omega, by have := HP12.out; omega⟩
      have Z1 := Lib.hid hx1
      have Z2 := Lib.hid hx2
      have MAx := Lib.hid (HA.out.below hb7)
      have MBx := Lib.hid (HB.out.below hb7)
      have Ox := Lib.hid (HO.out.below hb7)
      have Rx := Lib.hid (HR.out.below hb7)
      have Bx := Lib.hid (HBL.out.trans (hb7.mono HBL.out.size))
      clear hAl hBl hW7 hP1 hP2 hb7 hx1 hx2 HA HB HO HR HBL p0 p1 p2 p3 p4 p5 q0 q1 q2 q3 q4 q5
      by_cases hk0 : k = 0
      · subst hk0
        have hd2 : decide ((0 : Int) < ((0 : Nat) : Int)) = false := by decide
        have HFIT := HFP
        obtain ⟨r, hr⟩ : ∃ r, tch f n ty ⟨cb, ct, ca, cp, cy, cg⟩ = r := ⟨_, rfl⟩
        have HRR := Lib.hid hr
        have HSWP := Lib.hid HSPC.out
        rw [hr] at HSWP
        clear hr
        have C := Lib.hid (CT.out ⟨cb, ct, ca, cp, cy, cg⟩ W7 HFIT.out)
        rw [HRR.out] at C
        simp only [] at C
        obtain ⟨⟨z0, z1, z2, z3, z4, z5⟩, -⟩ := boxN6 Z1.out
        go_wp2_with fail
        refine C.out.mono ?_; rintro e Wa ⟨rfl, hb⟩
        have Z1a := Lib.hid (boxN_below Z1.out hb)
        have Z2a := Lib.hid (boxN_below Z2.out hb)
        have MAa := Lib.hid (MAx.out.below hb)
        have MBa := Lib.hid (MBx.out.below hb)
        have Oa := Lib.hid (Ox.out.below hb)
        have Ra := Lib.hid (Rx.out.below hb)
        have Ba := Lib.hid (Bx.out.trans (hb.mono Bx.out.size))
        clear hb C z0 z1 z2 z3 z4 z5 Z1 Z2 MAx MBx Ox Rx Bx
        cases r with
        | false =>
          have e1 := HSWP.out
          rw [if_neg (by decide)] at e1
          cases e1
          obtain ⟨⟨z0, z1, z2, z3, z4, z5⟩, -⟩ := boxN6 Z1a.out
          obtain ⟨⟨y0, y1, y2, y3, y4, y5⟩, -⟩ := boxN6 Z2a.out
          have hlt := HLT.out
          go_wp2_with fail
          go_roundw
          case rel => exact ⟨1, rfl, by omega, MAa, MBa, Oa, Ra, Ba⟩
          case measure => first | (simp [intOf]; done) | (simp [intOf]; omega)
        | true =>
          have e1 := HSWP.out
          rw [if_pos rfl] at e1
          unfold clrC at e1
          cases e1
          obtain ⟨⟨z0, z1, z2, z3, z4, z5⟩, x0, x1, x2, x3, x4, x5⟩ := boxN6 Z1a.out
          go_upto_region 17 with fail
          have hz := Z1a.out.set 5 (.bool false)
          have hk := KP.set1 Wa P1 5 (.bool false)
          have hy := Z2a.out.kp hk Z2a.out.lt (fun e => HP12.out.1 e.symm)
          have hma := MAa.out.kp hk MAa.out.lt (fun e => by have := HP12.out; omega)
          have hmb := MBa.out.kp hk MBa.out.lt (fun e => by have := HP12.out; omega)
          have ho := (Oa.out.beside (G := fun b => b = P1) (G' := fun b => b = P1) ⟨fun b hb => Or.inl hb, hk⟩ (fun b hb hg => HP1.out.1 (hg ▸ hb))).1
          have hr := Ra.out.kp hk (Nat.le_refl _) (fun b hb hg => HP1.out.2 (hg ▸ hb))
          have hbb := Below.setCell (p := ⟨P1, 5, none⟩) Ba.out HP12.out.2.2.2 (.bool false)
          generalize Wa.setCell ⟨P1, 5, none⟩ (.bool false) = Wb at *
          have hz : BoxN Wb P1 #[.int .u64 cb, .int .u64 ct, .int .u64 ca, .int .i64 cp, .int .i64 cy, .bool false] := hz
          have MAb := Lib.hid hma
          have MBb := Lib.hid hmb
          have Ob := Lib.hid ho
          have Rb := Lib.hid hr
          have Bb := Lib.hid hbb
          obtain ⟨⟨w0, w1, w2, w3, w4, w5⟩, -⟩ := boxN6 hz
          obtain ⟨⟨y0, y1, y2, y3, y4, y5⟩, -⟩ := boxN6 hy
          clear hz hk hy hma hmb ho hr hbb z0 z1 z2 z3 z4 z5 x0 x1 x2 x3 x4 x5 Z1a Z2a MAa MBa Oa Ra Ba
          have hlt := HLT.out
          go_wp2_with fail
          go_roundw
          case rel => exact ⟨1, rfl, by omega, MAb, MBb, Ob, Rb, Bb⟩
          case measure => first | (simp [intOf]; done) | (simp [intOf]; omega)
      · have hd2 : decide ((0 : Int) < (k : Int)) = true := decide_eq_true (by omega)
        have hkr : k < rs.length := by rw [HRL.out.1]; exact HLT.out
        have hks : k < (swR f n ty rs).length := by rw [HRL.out.2]; exact HLT.out
        have hra := MAx.out.reg k hks
        rw [HSA.out k (by omega) hkr] at hra
        have hrb := MBx.out.reg k hkr
        have hfit := HFR.out _ (List.getElem_mem hkr)
        have hsw : swp f n ty rs[k] = if tch f n ty rs[k] = true then clrC rs[k] else rs[k] := rfl
        obtain ⟨wv, hwv⟩ : ∃ c, rs[k] = c := ⟨_, rfl⟩
        rw [hwv] at hra hrb hfit hsw
        obtain ⟨nv, hnv⟩ : ∃ c, swp f n ty wv = c := ⟨_, rfl⟩
        rw [hnv] at hra hsw
        obtain ⟨r, hr⟩ : ∃ r, tch f n ty wv = r := ⟨_, rfl⟩
        have HRR := Lib.hid hr
        rw [hr] at hsw
        obtain ⟨wb, wt, wa, wp, wy, wg⟩ := wv
        obtain ⟨nb, nt, na, np, ny, ng⟩ := nv
        have HSWP := Lib.hid hsw
        have HFIT := Lib.hid hfit
        obtain ⟨a0, a1, a2, a3, a4, a5⟩ := range6 hra
        obtain ⟨b0, b1, b2, b3, b4, b5⟩ := range6 hrb
        simp only [] at a0 a1 a2 a3 a4 a5 b0 b1 b2 b3 b4 b5
        have HRA := Lib.hid hra
        obtain ⟨⟨z0, z1, z2, z3, z4, z5⟩, x0, x1, x2, x3, x4, x5⟩ := boxN6 Z1.out
        have hk0' : 1 ≤ k := by omega
        clear hra hrb hfit hsw hwv hnv hr hks hkr hk0
        go_upto_region 13 with fail
        have hz := boxN_mid P1 [.int .u64 wb, .int .u64 wt, .int .u64 wa, .int .i64 wp, .int .i64 wy, .bool wg] [] [.int .u64 cb, .int .u64 ct, .int .u64 ca, .int .i64 cp, .int .i64 cy, .bool cg] [] W7 rfl Z1.out
        have hk := kp_setCells (n := W7.heap.size) (S := fun b => b = P1) P1 (Or.inr rfl) [.int .u64 wb, .int .u64 wt, .int .u64 wa, .int .i64 wp, .int .i64 wy, .bool wg] 0 W7 (KP.refl _ _ _)
        have hbb := below_setCells P1 (show W.heap.size ≤ P1 by have := HP12.out; have := HP2.out; omega) [.int .u64 wb, .int .u64 wt, .int .u64 wa, .int .i64 wp, .int .i64 wy, .bool wg] 0 _ Bx.out
        rw [show ([] : List Value).length = 0 from rfl] at hz
        rw [set6_eq] at hz hk hbb
        simp only [Nat.zero_add] at hz hk hbb
        have hy := Z2.out.kp hk Z2.out.lt (fun e => by have := HP12.out.1; omega)
        have hma := MAx.out.kp hk MAx.out.lt (fun e => by have := HP12.out; have := HP2.out; omega)
        have hmb := MBx.out.kp hk MBx.out.lt (fun e => by have := HP12.out; have := HP2.out; omega)
        have ho := (Ox.out.beside (G := fun b => b = P1) (G' := fun b => b = P1) ⟨fun b hb => Or.inl hb, hk⟩ (fun b hb hg => HP1.out.1 (hg ▸ hb))).1
        have hr := Rx.out.kp hk (Nat.le_refl _) (fun b hb hg => HP1.out.2 (hg ▸ hb))
        generalize (((((W7.setCell ⟨P1, 0, none⟩ (.int .u64 wb)).setCell ⟨P1, 1, none⟩ (.int .u64 wt)).setCell ⟨P1, 2, none⟩ (.int .u64 wa)).setCell ⟨P1, 3, none⟩ (.int .i64 wp)).setCell ⟨P1, 4, none⟩ (.int .i64 wy)).setCell ⟨P1, 5, none⟩ (.bool wg) = W8 at *
        have hz : BoxN W8 P1 #[.int .u64 wb, .int .u64 wt, .int .u64 wa, .int .i64 wp, .int .i64 wy, .bool wg] := hz
        have hra8 := hma.reg k (by rw [HRL.out.2]; exact HLT.out)
        have hkr : k < rs.length := by rw [HRL.out.1]; exact HLT.out
        have hraE : W8.rangeAt A (6 + k * 6) (capC ⟨nb, nt, na, np, ny, ng⟩) := fun j v hv => hk.cell (heap_lt_of_cell (HRA.out j v hv)) (fun e => by have := HP12.out; omega) (HRA.out j v hv)
        have Z1 := Lib.hid hz
        have Z2 := Lib.hid hy
        have MAx := Lib.hid hma
        have MBx := Lib.hid hmb
        have Ox := Lib.hid ho
        have Rx := Lib.hid hr
        have Bx := Lib.hid hbb
        clear hra8 hkr hz hk hbb hy hma hmb ho hr a0 a1 a2 a3 a4 a5 b0 b1 b2 b3 b4 b5 z0 z1 z2 z3 z4 z5 x0 x1 x2 x3 x4 x5 HRA
        obtain ⟨a0, a1, a2, a3, a4, a5⟩ := range6 hraE
        simp only [] at a0 a1 a2 a3 a4 a5
        obtain ⟨⟨z0, z1, z2, z3, z4, z5⟩, x0, x1, x2, x3, x4, x5⟩ := boxN6 Z2.out
        clear hraE
        go_upto_region 14 with fail
        have hz := boxN_mid P2 [.int .u64 nb, .int .u64 nt, .int .u64 na, .int .i64 np, .int .i64 ny, .bool ng] [] [.int .u64 sb, .int .u64 st, .int .u64 sa, .int .i64 sp, .int .i64 sy, .bool sg] [] W8 rfl Z2.out
        have hk := kp_setCells (n := W8.heap.size) (S := fun b => b = P2) P2 (Or.inr rfl) [.int .u64 nb, .int .u64 nt, .int .u64 na, .int .i64 np, .int .i64 ny, .bool ng] 0 W8 (KP.refl _ _ _)
        have hbb := below_setCells P2 (show W.heap.size ≤ P2 by have := HP12.out; have := HP2.out; omega) [.int .u64 nb, .int .u64 nt, .int .u64 na, .int .i64 np, .int .i64 ny, .bool ng] 0 _ Bx.out
        rw [show ([] : List Value).length = 0 from rfl] at hz
        rw [set6_eq] at hz hk hbb
        simp only [Nat.zero_add] at hz hk hbb
        have hy := Z1.out.kp hk Z1.out.lt (fun e => by have := HP12.out.1; omega)
        have hma := MAx.out.kp hk MAx.out.lt (fun e => by have := HP12.out; have := HP2.out; omega)
        have hmb := MBx.out.kp hk MBx.out.lt (fun e => by have := HP12.out; have := HP2.out; omega)
        have ho := (Ox.out.beside (G := fun b => b = P2) (G' := fun b => b = P2) ⟨fun b hb => Or.inl hb, hk⟩ (fun b hb hg => HP2.out.1 (hg ▸ hb))).1
        have hr := Rx.out.kp hk (Nat.le_refl _) (fun b hb hg => HP2.out.2.1 (hg ▸ hb))
        generalize (((((W8.setCell ⟨P2, 0, none⟩ (.int .u64 nb)).setCell ⟨P2, 1, none⟩ (.int .u64 nt)).setCell ⟨P2, 2, none⟩ (.int .u64 na)).setCell ⟨P2, 3, none⟩ (.int .i64 np)).setCell ⟨P2, 4, none⟩ (.int .i64 ny)).setCell ⟨P2, 5, none⟩ (.bool ng) = W9 at *
        have hz : BoxN W9 P2 #[.int .u64 nb, .int .u64 nt, .int .u64 na, .int .i64 np, .int .i64 ny, .bool ng] := hz
        have Z2 := Lib.hid hz
        have Z1 := Lib.hid hy
        have MAx := Lib.hid hma
        have MBx := Lib.hid hmb
        have Ox := Lib.hid ho
        have Rx := Lib.hid hr
        have Bx := Lib.hid hbb
        clear hz hk hbb hy hma hmb ho hr a0 a1 a2 a3 a4 a5 z0 z1 z2 z3 z4 z5 x0 x1 x2 x3 x4 x5
        have C := Lib.hid (CT.out ⟨wb, wt, wa, wp, wy, wg⟩ W9 HFIT.out)
        rw [HRR.out] at C
        simp only [] at C
        obtain ⟨⟨z0, z1, z2, z3, z4, z5⟩, -⟩ := boxN6 Z1.out
        go_wp2_with fail
        refine C.out.mono ?_; rintro e Wa ⟨rfl, hb⟩
        have Z1a := Lib.hid (boxN_below Z1.out hb)
        have Z2a := Lib.hid (boxN_below Z2.out hb)
        have MAa := Lib.hid (MAx.out.below hb)
        have MBa := Lib.hid (MBx.out.below hb)
        have Oa := Lib.hid (Ox.out.below hb)
        have Ra := Lib.hid (Rx.out.below hb)
        have Ba := Lib.hid (Bx.out.trans (hb.mono Bx.out.size))
        clear hb C z0 z1 z2 z3 z4 z5 Z1 Z2 MAx MBx Ox Rx Bx
        cases r with
        | false =>
          have e1 := HSWP.out
          rw [if_neg (by decide)] at e1
          cases e1
          obtain ⟨⟨z0, z1, z2, z3, z4, z5⟩, -⟩ := boxN6 Z1a.out
          obtain ⟨⟨y0, y1, y2, y3, y4, y5⟩, -⟩ := boxN6 Z2a.out
          have hlt := HLT.out
          go_wp2_with fail
          go_roundw
          case rel => exact ⟨k + 1, by go_num, by omega, MAa, MBa, Oa, Ra, Ba⟩
          case measure => first | (simp [intOf]; done) | (simp [intOf]; omega)
        | true =>
          have e1 := HSWP.out
          rw [if_pos rfl] at e1
          unfold clrC at e1
          cases e1
          obtain ⟨⟨z0, z1, z2, z3, z4, z5⟩, x0, x1, x2, x3, x4, x5⟩ := boxN6 Z1a.out
          go_upto_region 17 with fail
          have hz := Z1a.out.set 5 (.bool false)
          have hk := KP.set1 Wa P1 5 (.bool false)
          have hy := Z2a.out.kp hk Z2a.out.lt (fun e => HP12.out.1 e.symm)
          have hma := MAa.out.kp hk MAa.out.lt (fun e => by have := HP12.out; omega)
          have hmb := MBa.out.kp hk MBa.out.lt (fun e => by have := HP12.out; omega)
          have ho := (Oa.out.beside (G := fun b => b = P1) (G' := fun b => b = P1) ⟨fun b hb => Or.inl hb, hk⟩ (fun b hb hg => HP1.out.1 (hg ▸ hb))).1
          have hr := Ra.out.kp hk (Nat.le_refl _) (fun b hb hg => HP1.out.2 (hg ▸ hb))
          have hbb := Below.setCell (p := ⟨P1, 5, none⟩) Ba.out HP12.out.2.2.2 (.bool false)
          generalize Wa.setCell ⟨P1, 5, none⟩ (.bool false) = Wb at *
          have hz : BoxN Wb P1 #[.int .u64 wb, .int .u64 wt, .int .u64 wa, .int .i64 wp, .int .i64 wy, .bool false] := hz
          have MAb := Lib.hid hma
          have MBb := Lib.hid hmb
          have Ob := Lib.hid ho
          have Rb := Lib.hid hr
          have Bb := Lib.hid hbb
          obtain ⟨⟨w0, w1, w2, w3, w4, w5⟩, -⟩ := boxN6 hz
          obtain ⟨⟨y0, y1, y2, y3, y4, y5⟩, -⟩ := boxN6 hy
          clear hz hk hy hma hmb ho hr hbb z0 z1 z2 z3 z4 z5 x0 x1 x2 x3 x4 x5 Z1a Z2a MAa MBa Oa Ra Ba
          have hlt := HLT.out
          go_wp2_with fail
          go_roundw
          case rel => exact ⟨k + 1, by go_num, by omega, MAb, MBb, Ob, Rb, Bb⟩
          case measure => first | (simp [intOf]; done) | (simp [intOf]; omega)
    · obtain rfl : k = 32 := by omega
      have hd1 : decide ((32 : Int) < 32) = false := by decide
      clear hlt hk
      rw [show ((32 : Nat) : Int) = 32 from rfl]
      go_wp2_with fail
      go_loopw [18, 19, 20, 21, 22, 23] (fun v18 q1 q2 q3 q4 q5 wr => ∃ k : Nat, v18 = .int .u64 ((32 * k : Nat) : Int) ∧ k ≤ 64 ∧ Hid (McAt wr A M spc (swR f n ty rs)) ∧ Hid (McAt wr B R ⟨cb, ct, ca, cp, cy, cg⟩ rs) ∧ Hid (Own1 wr N F5 M m2) ∧ Hid (RmAt wr R G mm) ∧ Hid (Below W.heap.size W wr)) (fun v18 _ _ _ _ _ _ => 2048 - (intOf v18).toNat)
      case atStart => exact ⟨0, rfl, by omega, HA, HB, HO, HR, HBL⟩
      case round =>
        clear HA HB HO HR HBL HSWP0
        obtain ⟨k, rfl, hk, HA, HB, HO, HR, HBL⟩ := hrel
        by_cases hlt : k < 64
        · obtain ⟨y, hy⟩ : ∃ y, 32 * k = y := ⟨_, rfl⟩
          obtain ⟨y2, hy2⟩ : ∃ y2, 32 * (k + 1) = y2 := ⟨_, rfl⟩
          have hd1 : decide ((y : Int) < 2048) = true := decide_eq_true (by omega)
          have wy : IntKind.u64.wrap ((y : Int) + 32) = (y2 : Int) := by rw [IntKind.wrap_u64]; omega
          have HLT := Lib.hid (And.intro hlt (And.intro hy hy2))
          have hsp := HSP.out y (by omega)
          have C1 := Lib.hid (rloadC_any wr R G mm HR.out y (by omega))
          have C2 := Lib.hid (fun w (h : Own1 w N F5 M m2) => sloadC_any w N M F5 m2 h y (by omega))
          have hfit := loadC_fit HR.out.okm (y : Int)
          rw [hsp] at C2
          obtain ⟨⟨wv, ev⟩, hwv⟩ : ∃ p, loadC mm (y : Int) = p := ⟨_, rfl⟩
          rw [hwv] at C1 C2 hfit
          simp only [] at C1 C2 hfit
          have hsw : swp f n ty wv = if tch f n ty wv = true then clrC wv else wv := rfl
          obtain ⟨nv, hnv⟩ : ∃ c, swp f n ty wv = c := ⟨_, rfl⟩
          rw [hnv] at C2 hsw
          obtain ⟨r, hr⟩ : ∃ r, tch f n ty wv = r := ⟨_, rfl⟩
          have HRR := Lib.hid hr
          rw [hr] at hsw
          obtain ⟨wb, wt, wa, wp, wyy, wg⟩ := wv
          obtain ⟨nb, nt, na, np, ny, ng⟩ := nv
          rw [show (capC ⟨wb, wt, wa, wp, wyy, wg⟩).toArray = #[.int .u64 wb, .int .u64 wt, .int .u64 wa, .int .i64 wp, .int .i64 wyy, .bool wg] from rfl] at C1
          rw [show (capC ⟨nb, nt, na, np, ny, ng⟩).toArray = #[.int .u64 nb, .int .u64 nt, .int .u64 na, .int .i64 np, .int .i64 ny, .bool ng] from rfl] at C2
          have HSWP := Lib.hid hsw
          have HFIT := Lib.hid hfit
          have mb := HB.out.mem
          rw [hy]
          clear hsp hfit hwv hsw hnv hr hk hlt hy hy2
          go_wp2_with fail
          refine C1.out.mono ?_; rintro e w2 ⟨rfl, hb⟩
          have A2 := Lib.hid (HA.out.below hb)
          have M2 := Lib.hid (HB.out.below hb)
          have O2 := Lib.hid (HO.out.below hb)
          have R2 := Lib.hid (HR.out.below hb)
          have BL2 := Lib.hid (HBL.out.trans (hb.mono HBL.out.size))
          clear hb C1 HA HB HO HR HBL mb
          go_upto_region 23 with fail
          obtain ⟨W3, hW3⟩ : ∃ W3, w2.alloc (.cells #[.int .u64 wb, .int .u64 wt, .int .u64 wa, .int .i64 wp, .int .i64 wyy, .bool wg] 24) = W3 := ⟨_, rfl⟩
          (try rw [hW3])
          obtain ⟨P1, hP1⟩ : ∃ P, w2.heap.size = P := ⟨_, rfl⟩
          (try rw [hP1])
          have hb3 : Below w2.heap.size w2 W3 := by rw [← hW3]; exact bAlloc (Below.refl _ _) _
          have hx1 : BoxN W3 P1 #[.int .u64 wb, .int .u64 wt, .int .u64 wa, .int .i64 wp, .int .i64 wyy, .bool wg] := by rw [← hW3, ← hP1]; exact BoxN.new _ _ _
          have HP12a : Hid (A < P1 ∧ B < P1 ∧ W.heap.size ≤ P1) := Lib.hid ⟨by rw [← hP1]; exact A2.out.lt, by rw [← hP1]; exact M2.out.lt, by rw [← hP1]; exact BL2.out.size⟩
          have HP1 : Hid (¬ F5 P1 ∧ ¬ G P1) := Lib.hid ⟨fun h => by have := O2.out.lt P1 h; omega, fun h => by have := R2.out.lt P1 h; omega⟩
          have Z1a := Lib.hid hx1
          have A3 := Lib.hid (A2.out.below hb3)
          have M3 := Lib.hid (M2.out.below hb3)
          have O3 := Lib.hid (O2.out.below hb3)
          have R3 := Lib.hid (R2.out.below hb3)
          have BL3 := Lib.hid (BL2.out.trans (hb3.mono BL2.out.size))
          have C := Lib.hid (C2.out W3 O3.out)
          have ma3 := A3.out.mem
          clear hb3 hx1 hW3 hP1 A2 M2 O2 R2 BL2 C2
          go_wp2_with fail
          refine C.out.mono ?_; rintro e w4 ⟨rfl, hb⟩
          have Z1b := Lib.hid (boxN_below Z1a.out hb)
          have A4 := Lib.hid (A3.out.below hb)
          have M4 := Lib.hid (M3.out.below hb)
          have O4 := Lib.hid (O3.out.below hb)
          have R4 := Lib.hid (R3.out.below hb)
          have BL4 := Lib.hid (BL3.out.trans (hb.mono BL3.out.size))
          clear hb C ma3 A3 M3 O3 R3 BL3 Z1a
          go_upto_region 24 with fail
          obtain ⟨W9, hW9⟩ : ∃ W9, w4.alloc (.cells #[.int .u64 nb, .int .u64 nt, .int .u64 na, .int .i64 np, .int .i64 ny, .bool ng] 24) = W9 := ⟨_, rfl⟩
          (try rw [hW9])
          obtain ⟨P2, hP2⟩ : ∃ P, w4.heap.size = P := ⟨_, rfl⟩
          (try rw [hP2])
          have hb9 : Below w4.heap.size w4 W9 := by rw [← hW9]; exact bAlloc (Below.refl _ _) _
          have hx2 : BoxN W9 P2 #[.int .u64 nb, .int .u64 nt, .int .u64 na, .int .i64 np, .int .i64 ny, .bool ng] := by rw [← hW9, ← hP2]; exact BoxN.new _ _ _
          have HP12 : Hid (P1 ≠ P2 ∧ A < P1 ∧ B < P1 ∧ W.heap.size ≤ P1) := Lib.hid ⟨by have := Z1b.out.lt; omega, HP12a.out⟩
          have Z1 := Lib.hid (boxN_below Z1b.out hb9)
          have Z2 := Lib.hid hx2
          have MAx := Lib.hid (A4.out.below hb9)
          have MBx := Lib.hid (M4.out.below hb9)
          have Ox := Lib.hid (O4.out.below hb9)
          have Rx := Lib.hid (R4.out.below hb9)
          have Bx := Lib.hid (BL4.out.trans (hb9.mono BL4.out.size))
          clear hW9 hP2 hb9 hx2 A4 M4 O4 R4 BL4 Z1b HP12a
          have C := Lib.hid (CT.out ⟨wb, wt, wa, wp, wyy, wg⟩ W9 HFIT.out)
          rw [HRR.out] at C
          simp only [] at C
          obtain ⟨⟨z0, z1, z2, z3, z4, z5⟩, -⟩ := boxN6 Z1.out
          go_wp2_with fail
          refine C.out.mono ?_; rintro e Wa ⟨rfl, hb⟩
          have Z1a := Lib.hid (boxN_below Z1.out hb)
          have Z2a := Lib.hid (boxN_below Z2.out hb)
          have MAa := Lib.hid (MAx.out.below hb)
          have MBa := Lib.hid (MBx.out.below hb)
          have Oa := Lib.hid (Ox.out.below hb)
          have Ra := Lib.hid (Rx.out.below hb)
          have Ba := Lib.hid (Bx.out.trans (hb.mono Bx.out.size))
          clear hb C z0 z1 z2 z3 z4 z5 Z1 Z2 MAx MBx Ox Rx Bx
          cases r with
          | false =>
            have e1 := HSWP.out
            rw [if_neg (by decide)] at e1
            cases e1
            obtain ⟨⟨z0, z1, z2, z3, z4, z5⟩, -⟩ := boxN6 Z1a.out
            obtain ⟨⟨y0, y1, y2, y3, y4, y5⟩, -⟩ := boxN6 Z2a.out
            obtain ⟨hlt, -, -⟩ := HLT.out
            go_wp2_with fail
            go_roundw
            case rel => exact ⟨k + 1, by rw [HLT.out.2.2], by have := HLT.out.1; omega, MAa, MBa, Oa, Ra, Ba⟩
            case measure => first | (have h1 := HLT.out; simp [intOf]; omega)
          | true =>
            have e1 := HSWP.out
            rw [if_pos rfl] at e1
            unfold clrC at e1
            cases e1
            obtain ⟨⟨z0, z1, z2, z3, z4, z5⟩, x0, x1, x2, x3, x4, x5⟩ := boxN6 Z1a.out
            go_upto_region 27 with fail
            have hz := Z1a.out.set 5 (.bool false)
            have hk := KP.set1 Wa P1 5 (.bool false)
            have hy := Z2a.out.kp hk Z2a.out.lt (fun e => HP12.out.1 e.symm)
            have hma := MAa.out.kp hk MAa.out.lt (fun e => by have := HP12.out; omega)
            have hmb := MBa.out.kp hk MBa.out.lt (fun e => by have := HP12.out; omega)
            have ho := (Oa.out.beside (G := fun b => b = P1) (G' := fun b => b = P1) ⟨fun b hb => Or.inl hb, hk⟩ (fun b hb hg => HP1.out.1 (hg ▸ hb))).1
            have hr := Ra.out.kp hk (Nat.le_refl _) (fun b hb hg => HP1.out.2 (hg ▸ hb))
            have hbb := Below.setCell (p := ⟨P1, 5, none⟩) Ba.out HP12.out.2.2.2 (.bool false)
            generalize Wa.setCell ⟨P1, 5, none⟩ (.bool false) = Wb at *
            have hz : BoxN Wb P1 #[.int .u64 wb, .int .u64 wt, .int .u64 wa, .int .i64 wp, .int .i64 wyy, .bool false] := hz
            have MAb := Lib.hid hma
            have MBb := Lib.hid hmb
            have Ob := Lib.hid ho
            have Rb := Lib.hid hr
            have Bb := Lib.hid hbb
            obtain ⟨⟨w0, w1, w2, w3, w4, w5⟩, -⟩ := boxN6 hz
            obtain ⟨⟨y0, y1, y2, y3, y4, y5⟩, -⟩ := boxN6 hy
            clear hz hk hy hma hmb ho hr hbb z0 z1 z2 z3 z4 z5 x0 x1 x2 x3 x4 x5 Z1a Z2a MAa MBa Oa Ra Ba
            obtain ⟨hlt, -, -⟩ := HLT.out
            go_wp2_with fail
            go_roundw
            case rel => exact ⟨k + 1, by rw [HLT.out.2.2], by have := HLT.out.1; omega, MAb, MBb, Ob, Rb, Bb⟩
            case measure => first | (have h1 := HLT.out; simp [intOf]; omega)
        · obtain rfl : k = 64 := by omega
          have hd1 : decide (((32 * 64 : Nat) : Int) < 2048) = false := by decide
          clear hlt hk
          go_wp2_with fail
          go_ret
          exact ⟨rfl, HBL.out⟩
end Go.Proofs.Ytinflemamegdfaa
