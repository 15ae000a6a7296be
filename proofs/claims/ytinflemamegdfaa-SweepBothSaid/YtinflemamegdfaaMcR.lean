/- Two machines alike, and what they are: contract. -/
import Derived.Test.YtinflemamegdfaaMcI
namespace Go.Proofs.Ytinflemamegdfaa
set_option linter.unusedVariables false
set_option linter.unusedSimpArgs false
open Go.Joins Go.ChangeShapes Go.WideShapes Go.ChangeAt Go.RowKit Go.Deep

/-- a memory and registers behind a put; behind all -/
def putS (s : Mm × List Cp) (p : Pt) : Mm × List Cp := if p.to_ < 32 then (s.1, s.2.set p.to_.toNat p.c) else ((storeC s.1 ((32 * (p.to_.toNat - 32) : Nat) : Int) p.c).1, s.2)
def bothF (l : List Pt) : Mm × List Cp := l.foldl putS (mm0, List.replicate 32 nullC)
theorem bothF_snoc (l : List Pt) (k : Nat) (h : k < l.length) : bothF (l.take (k + 1)) = putS (bothF (l.take k)) l[k] := by
  unfold bothF
  rw [List.take_succ_eq_append_getElem h, List.foldl_append]
  rfl
set_option maxRecDepth 100000 in
set_option maxHeartbeats 4000000 in
theorem both2_any (W : World) (pc : Cp) (pa : Option Addr) (pcap : Nat) (l : List Pt) (hp : RdPt W pa l) (hm : l.length < 9223372036854775808) (hfp : FitC pc) (hfl : ∀ p ∈ l, FitC p.c) :
    Calls Try.prog 11 #[.agg (capC pc).toArray, .slice pa l.length pcap] W fun e W' => Below W.heap.size W W' ∧ (NoBoth e ∨ ∃ A B M R F G mm rs, e = .returned (.tuple #[.pointer (some ⟨A, 0, none⟩), .pointer (some ⟨B, 0, none⟩)]) ∧ BothAt W.heap.size W' A B M R F G mm pc rs ∧ (mm, rs) = bothF l) := by
  have HP := Lib.hid hp
  have HFP := Lib.hid hfp
  have HFL := Lib.hid hfl
  have CR := Lib.hid (fun w => right_any pc w)
  have CN := Lib.hid (fun w => snew_any 16 (by decide) w)
  have CRN := Lib.hid (fun w => rnew_any 16 w)
  obtain ⟨n, hn⟩ : ∃ n, l.length = n := ⟨_, rfl⟩
  have HN := Lib.hid hn
  rw [hn] at hm ⊢
  obtain ⟨q, hq⟩ : ∃ q, rightB pc = q := ⟨_, rfl⟩
  rw [hq] at CR
  have HMX := Lib.hid hm
  have CMN := Lib.hid (fun M w => mnew_any M pc w)
  have CRM := Lib.hid (fun M w => rmnew_any M pc w)
  obtain ⟨cb, ct, ca, cp, cy, cg⟩ := pc
  rw [show (capC ⟨cb, ct, ca, cp, cy, cg⟩).toArray = #[.int .u64 cb, .int .u64 ct, .int .u64 ca, .int .i64 cp, .int .i64 cy, .bool cg] from rfl] at CR CMN CRM ⊢
  clear hp hfp hfl hn hm hq
  go_enter Try.func11, Try.ntmps11
  go_wp2_with fail
  refine (CR.out _).mono ?_; rintro e W1 ⟨rfl, hb⟩
  have B1 := Lib.hid (bTrans (bAlloc (Below.refl _ _) _) hb)
  have X1 := Lib.hid (boxN_below (BoxN.new W #[.int .u64 cb, .int .u64 ct, .int .u64 ca, .int .i64 cp, .int .i64 cy, .bool cg] 24) hb)
  obtain ⟨X, hX⟩ : ∃ X, W.heap.size = X := ⟨_, rfl⟩
  rw [hX] at X1 B1 ⊢
  have HX := Lib.hid hX
  clear hb hX CR
  go_wp2_with fail
  refine (CN.out W1).mono ?_; rintro e W2 ⟨M, F, rfl, h2, hb⟩
  have hx1 : X ≤ W1.heap.size := by rw [← HX.out]; exact B1.out.size
  have O2 := Lib.hid (show Own1 W2 X F M (emptyM 16) from ⟨h2.mem, fun q hq => Nat.le_trans hx1 (h2.ge q hq), Nat.le_trans hx1 h2.sz⟩)
  have B2 := Lib.hid (B1.out.trans (hb.mono hx1))
  have HFX : Hid (¬ F X) := Lib.hid (fun h => by have := h2.ge X h; have := X1.out.lt; omega)
  have X2 := Lib.hid (boxN_below X1.out hb)
  clear hb h2 hx1 CN X1 B1
  go_wp2_with fail
  refine (CRN.out W2).mono ?_; rintro e W3 (⟨h0, -⟩ | ⟨-, R, rfl, hR, hr, hb⟩)
  · exact absurd h0 (by decide)
  have hx2 : X ≤ W2.heap.size := by rw [← HX.out]; exact B2.out.size
  have O3 := Lib.hid (O2.out.below hb)
  have R3 := Lib.hid (show RmAt W3 R (fun q => W2.heap.size ≤ q ∧ q < W3.heap.size) (emptyM 16) from hr)
  have B3 := Lib.hid (B2.out.trans (hb.mono hx2))
  have X3 := Lib.hid (boxN_below X2.out hb)
  have HZ23 : Hid (W2.heap.size ≤ W3.heap.size ∧ X < W2.heap.size ∧ ∀ b, F b → b < W2.heap.size) := Lib.hid ⟨hb.size, X2.out.lt, O2.out.lt⟩
  clear hb hr hR hx2 CRN X2 B2 O2
  cases q with
  | false =>
    go_wp2_with fail
    go_ret2
    exact ⟨by rw [HX.out]; exact B3.out, Or.inl rfl⟩
  | true =>
  by_cases g60 : 60 < n
  · have d1 : decide ((60 : Int) < (n : Int)) = true := decide_eq_true (by omega)
    clear g60
    go_wp2_with fail
    go_ret2
    exact ⟨by rw [HX.out]; exact B3.out, Or.inl rfl⟩
  have d1 : decide ((60 : Int) < (n : Int)) = false := decide_eq_false (by omega)
  have HN60 := Lib.hid g60
  have C := Lib.hid (smap_any W3 X M F (emptyM 16) O3.out 0 8 (by decide) (by decide) (by decide) (by decide))
  clear g60
  go_wp2_with fail
  refine C.out.mono ?_; rintro e W4 ⟨rfl, F1, h4, mv⟩
  have hx3 : X ≤ W3.heap.size := by rw [← HX.out]; exact B3.out.size
  have O4 := Lib.hid h4
  have R4 := Lib.hid (R3.out.kp mv.kp (Nat.le_refl _) (fun b hb hF => by have := HZ23.out.2.2 b hF; omega))
  have B4 := Lib.hid (B3.out.trans ((mv.belowN O3.out).mono (Nat.le_refl _)))
  have X4 := Lib.hid (X3.out.kp mv.kp X3.out.lt HFX.out)
  have HF1 : Hid ((∀ b, F1 b → F b ∨ W3.heap.size ≤ b) ∧ ∀ b, F1 b → b < W4.heap.size) := Lib.hid ⟨mv.sub, h4.lt⟩
  have HZ34 : Hid (W3.heap.size ≤ W4.heap.size ∧ X ≤ W3.heap.size) := Lib.hid ⟨mv.kp.size, hx3⟩
  have C := Lib.hid (rmap_any W4 R _ (emptyM 16) R4.out 0 8 (by decide) (by decide) (by decide) (by decide))
  clear h4 mv hx3 R3 B3 X3 O3 HFX
  go_wp2_with fail
  refine C.out.mono ?_; rintro e W5 ⟨rfl, hr5, hk5⟩
  have hx4 : X ≤ W4.heap.size := by have := HZ34.out; omega
  have dj : ∀ b, F1 b → ¬ (W2.heap.size ≤ b ∧ b < W3.heap.size) := fun b hb hg => by
    rcases HF1.out.1 b hb with h1 | h1
    · have := HZ23.out.2.2 b h1; omega
    · omega
  have X5 := Lib.hid (X4.out.kp hk5 X4.out.lt (fun h => by have := HZ23.out.2.1; have := h.1; omega))
  have hsub5 : ∀ b, FN (fun q => W2.heap.size ≤ q ∧ q < W3.heap.size) W4 W5 b → (W2.heap.size ≤ b ∧ b < W3.heap.size) ∨ W4.heap.size ≤ b := fun b hb => by
    rcases hb with h1 | h1
    · exact Or.inl h1
    · exact Or.inr h1.1
  have O5 := Lib.hid (O4.out.beside (G := fun q => W2.heap.size ≤ q ∧ q < W3.heap.size) (G' := FN (fun q => W2.heap.size ≤ q ∧ q < W3.heap.size) W4 W5) ⟨hsub5, hk5⟩ dj).1
  have B5 := Lib.hid (B4.out.trans ((hk5.to_below (m := X) (by omega) (fun b hb hg => by have := HZ23.out.2.1; have := hg.1; omega))))
  obtain ⟨G, hG⟩ : ∃ G, FN (fun q => W2.heap.size ≤ q ∧ q < W3.heap.size) W4 W5 = G := ⟨_, rfl⟩
  rw [hG] at hr5 hsub5
  have R5 := Lib.hid hr5
  have HGN : Hid (∀ b, G b → X ≤ b) := Lib.hid (fun b hb => by
    have := HZ23.out.2.1
    rcases hsub5 b hb with h1 | h1
    · omega
    · omega)
  have HFG : Hid (∀ b, F1 b → ¬ G b) := Lib.hid (fun b hb hg => by
    rcases hsub5 b hg with h1 | h1
    · exact dj b hb h1
    · have := HF1.out.2 b hb; omega)
  obtain ⟨mm, hmm⟩ : ∃ mm, (mapF (emptyM 16) 0 8).1 = mm := ⟨_, rfl⟩
  have HMM : Hid ((mm, List.replicate 32 nullC) = bothF (l.take 0)) := Lib.hid (by rw [← hmm]; rfl)
  rw [hmm] at O5 R5
  obtain ⟨⟨x0, x1, x2, x3, x4, x5⟩, -⟩ := boxN6 X5.out
  clear hG hr5 hk5 hsub5 dj hx4 hmm X4 R4 O4 B4 C HF1 HZ23 HZ34
  go_wp2_with fail
  refine (CMN.out M W5).mono ?_; rintro e W6 ⟨A, rfl, hA, hma, hb⟩
  have O6 := Lib.hid (O5.out.below hb)
  have R6 := Lib.hid (R5.out.below hb)
  have B6 := Lib.hid (B5.out.trans (hb.mono (by rw [← HX.out]; exact B5.out.size)))
  have X6 := Lib.hid (boxN_below X5.out hb)
  have MA6 := Lib.hid hma
  have HA : Hid (W5.heap.size ≤ A ∧ ¬ F1 A ∧ ¬ G A ∧ X ≤ A) := Lib.hid ⟨hA, fun h => by have := O5.out.lt A h; omega, fun h => by have := R5.out.lt A h; omega, by have := B5.out.size; have := HX.out; omega⟩
  clear hb hA hma O5 R5 B5 X5 CMN x0 x1 x2 x3 x4 x5
  obtain ⟨⟨x0, x1, x2, x3, x4, x5⟩, -⟩ := boxN6 X6.out
  go_wp2_with fail
  refine (CRM.out R W6).mono ?_; rintro e W7 ⟨B, rfl, hB, hmb, hb⟩
  have H7 : Hid (BothAt X W7 A B M R F1 G mm ⟨cb, ct, ca, cp, cy, cg⟩ (List.replicate 32 nullC)) := Lib.hid (by
    have z1 := MA6.out.lt
    have z2 := B6.out.size
    have z3 := HX.out
    exact ⟨O6.out.below hb, R6.out.below hb, MA6.out.below hb, hmb, HGN.out, HFG.out, HA.out.2.1, HA.out.2.2.1, fun h => by have := O6.out.lt B h; omega, fun h => by have := R6.out.lt B h; omega, by omega, HA.out.2.2.2, by omega, fun c hc => by
      rw [List.eq_of_mem_replicate hc]
      exact ⟨by decide, by decide, by decide, by decide, by decide, by decide⟩⟩)
  have B7 := Lib.hid (B6.out.trans (hb.mono (by rw [← HX.out]; exact B6.out.size)))
  clear hb hB hmb O6 R6 B6 X6 MA6 HA HGN HFG CRM x0 x1 x2 x3 x4 x5
  go_wp2_with fail
  go_loopw [13, 14, 15] (fun i v14 v15 wr => ∃ (k : Nat) (F' G' : Nat → Prop) (m : Mm) (rs : List Cp), i = .int .i64 (k : Int) ∧ k ≤ n ∧ Hid (BothAt X wr A B M R F' G' m ⟨cb, ct, ca, cp, cy, cg⟩ rs) ∧ Hid (Below X W wr) ∧ Hid ((m, rs) = bothF (l.take k))) (fun i _ _ _ => n - (intOf i).toNat)
  case atStart => exact ⟨0, F1, G, mm, _, rfl, Nat.zero_le _, H7, B7, HMM⟩
  case round =>
    clear H7 B7 HMM
    obtain ⟨k, F, G, m, rs, rfl, hk, HS, HB, HMF⟩ := hrel
    by_cases hlt : k < n
    · have hkl : k < l.length := by rw [HN.out]; exact hlt
      have hbW : Below W.heap.size W wr := by rw [HX.out]; exact HB.out
      obtain ⟨g, off, hge, hgl, hto, hrg⟩ := RdPt.at_ (show RdPt wr pa l from HP.out.below hbW) hkl
      have hfit := HFL.out l[k] (List.getElem_mem hkl)
      obtain ⟨g', off', hge', hgl', -⟩ := HP.out.at_ hkl
      have hnx := bothF_snoc l k hkl
      obtain ⟨⟨to_, c⟩, hpe⟩ : ∃ p, l[k] = p := ⟨_, rfl⟩
      rw [hpe] at hto hrg hfit hnx
      rw [← HMF.out] at hnx
      have HNX := Lib.hid hnx
      clear hnx
      simp only [] at hto hrg hfit
      have CR := Lib.hid (fun w => right_any c w)
      obtain ⟨r, hr⟩ : ∃ r, rightB c = r := ⟨_, rfl⟩
      rw [hr] at CR
      have HGX : Hid (g < X) := Lib.hid (by
        rw [hge] at hge'
        cases hge'
        rw [← HX.out]; exact hgl')
      have HFT := Lib.hid hfit
      obtain ⟨c0, c1, c2, c3, c4, c5⟩ := range6 hrg
      have HRG := Lib.hid hrg
      have HTO := Lib.hid hto
      obtain ⟨eb, et, ea, ep, ey, eg⟩ := c
      rw [show (capC ⟨eb, et, ea, ep, ey, eg⟩).toArray = #[.int .u64 eb, .int .u64 et, .int .u64 ea, .int .i64 ep, .int .i64 ey, .bool eg] from rfl] at CR
      simp only [] at c0 c1 c2 c3 c4 c5
      have kk0 : (0 : Int) ≤ (k : Int) := by omega
      have kk1 : (k : Int) < (n : Int) := by omega
      have hd1 : decide ((k : Int) < (n : Int)) = true := decide_eq_true kk1
      have HLT := Lib.hid hlt
      subst hge
      clear hfit hge' hgl' hpe hr hkl hlt hk hgl hbW hrg
      go_wp2_with fail
      refine (CR.out _).mono ?_; rintro e w2 ⟨rfl, hb⟩
      have S2 := Lib.hid (HS.out.below hb)
      have B2 := Lib.hid (HB.out.trans (hb.mono (by rw [← HX.out]; exact HB.out.size)))
      have hto2 := (hb.cell (heap_lt_of_cell HTO.out)).trans HTO.out
      have hrg2 : w2.rangeAt g (off + k * 7 + 1) (capC ⟨eb, et, ea, ep, ey, eg⟩) := fun j v hv => (hb.cell (heap_lt_of_cell (HRG.out j v hv))).trans (HRG.out j v hv)
      have HRG2 := Lib.hid hrg2
      clear hb HS HB hto c0 c1 c2 c3 c4 c5 HRG HTO CR
      obtain ⟨c0, c1, c2, c3, c4, c5⟩ := range6 hrg2
      simp only [] at c0 c1 c2 c3 c4 c5
      clear hrg2
      cases r with
      | false =>
        go_wp2_with fail
        go_ret2
        exact ⟨by rw [HX.out]; exact B2.out, Or.inl rfl⟩
      | true =>
      by_cases t1 : to_ < 1
      · have e1 : decide (to_ < 1) = true := decide_eq_true t1
        clear t1
        go_wp2_with fail
        go_ret2
        exact ⟨by rw [HX.out]; exact B2.out, Or.inl rfl⟩
      have e1 : decide (to_ < 1) = false := decide_eq_false t1
      by_cases t2 : 95 < to_
      · have e2 : decide (95 < to_) = true := decide_eq_true t2
        clear t1 t2
        go_wp2_with fail
        go_ret2
        exact ⟨by rw [HX.out]; exact B2.out, Or.inl rfl⟩
      have e2 : decide (95 < to_) = false := decide_eq_false t2
      obtain ⟨tn, rfl⟩ : ∃ tn : Nat, to_ = (tn : Int) := ⟨to_.toNat, by omega⟩
      by_cases t3 : tn < 32
      · have e3 : decide ((tn : Int) < 32) = true := decide_eq_true (by omega)
        have hi0 : (0 : Int) ≤ (tn : Int) := by omega
        have hi1 : (tn : Int) < 32 := by omega
        have hta : tn < rs.length := by rw [S2.out.ma.len]; exact t3
        obtain ⟨a0, a1, a2, a3, a4, a5⟩ := range6 (S2.out.ma.reg tn hta)
        obtain ⟨f0, f1, f2, f3, f4, f5⟩ := there6 (S2.out.ma.regThere tn hta)
        have HTA := Lib.hid (And.intro hta t3)
        have NM : Hid ((m, rs.set tn ⟨eb, et, ea, ep, ey, eg⟩) = bothF (l.take (k + 1))) := Lib.hid (by
          rw [HNX.out]
          unfold putS
          rw [if_pos (show ((tn : Nat) : Int) < 32 by omega)]
          simp only [Int.toNat_natCast])
        have HTO2 := Lib.hid hto2
        clear t1 t2 t3
        go_wp2_with fail
        go_still_tail 14, (by kernel_rfl)
        change wpList _ _ _ _ _ w2.drew
        obtain ⟨w3, hw3⟩ : ∃ w3, w2.drew = w3 := ⟨_, rfl⟩
        have hb3 : Below w2.heap.size w2 w3 := by rw [← hw3]; exact Below.drew (Below.refl _ _)
        have S3 := Lib.hid (S2.out.below hb3)
        have B3 := Lib.hid (B2.out.trans (hb3.mono (by rw [← HX.out]; exact B2.out.size)))
        have hto3 := (hb3.cell (heap_lt_of_cell HTO2.out)).trans HTO2.out
        have hrg3 : w3.rangeAt g (off + k * 7 + 1) (capC ⟨eb, et, ea, ep, ey, eg⟩) := fun j v hv => (hb3.cell (heap_lt_of_cell (HRG2.out j v hv))).trans (HRG2.out j v hv)
        rw [hw3]
        have HT3 := Lib.hid (And.intro hto3 hrg3)
        clear hw3 hb3 hto2 hto3 hrg3 c0 c1 c2 c3 c4 c5 a0 a1 a2 a3 a4 a5 f0 f1 f2 f3 f4 f5 S2 B2 HRG2 HTO2
        obtain ⟨a0, a1, a2, a3, a4, a5⟩ := range6 (S3.out.ma.reg tn HTA.out.1)
        obtain ⟨f0, f1, f2, f3, f4, f5⟩ := there6 (S3.out.ma.regThere tn HTA.out.1)
        go_upto_region 20 with fail
        have ks : KP w3.heap.size (fun b => b = A) w3 (w3.setCells A (6 + tn * 6) (capC ⟨eb, et, ea, ep, ey, eg⟩)) := kp_setCells (S := fun b => b = A) A (Or.inr rfl) _ _ w3 (KP.refl _ _ _)
        have hst := fun w5 hb => S3.out.set2 (W2 := w5) tn HTA.out.1 ⟨eb, et, ea, ep, ey, eg⟩ HFT.out hb
        rw [show capC ⟨eb, et, ea, ep, ey, eg⟩ = [.int .u64 eb, .int .u64 et, .int .u64 ea, .int .i64 ep, .int .i64 ey, .bool eg] from rfl] at ks hst
        rw [set6_eq w3] at ks hst
        generalize (((((w3.setCell ⟨A, 6 + tn * 6, none⟩ (.int .u64 eb)).setCell ⟨A, 6 + tn * 6 + 1, none⟩ (.int .u64 et)).setCell ⟨A, 6 + tn * 6 + 2, none⟩ (.int .u64 ea)).setCell ⟨A, 6 + tn * 6 + 3, none⟩ (.int .i64 ep)).setCell ⟨A, 6 + tn * 6 + 4, none⟩ (.int .i64 ey)).setCell ⟨A, 6 + tn * 6 + 5, none⟩ (.bool eg) = w4 at *
        have HKS := Lib.hid ks
        have HST := Lib.hid hst
        have hgA : ¬ g = A := fun e => by have := HGX.out; have := S3.out.na; omega
        have hto4 : w4.cell? ⟨g, off + k * 7, none⟩ = some (.int .i64 (tn : Int)) := ks.cell (heap_lt_of_cell HT3.out.1) hgA HT3.out.1
        have hrg4 : w4.rangeAt g (off + k * 7 + 1) (capC ⟨eb, et, ea, ep, ey, eg⟩) := fun j v hv => ks.cell (heap_lt_of_cell (HT3.out.2 j v hv)) hgA (HT3.out.2 j v hv)
        have HT4 := Lib.hid (And.intro hto4 hrg4)
        obtain ⟨c0, c1, c2, c3, c4, c5⟩ := range6 hrg4
        simp only [] at c0 c1 c2 c3 c4 c5
        have MB4 := Lib.hid (S3.out.mb.kp ks S3.out.mb.lt (fun e => S3.out.ab e.symm))
        have HXA := Lib.hid (And.intro S3.out.na S3.out.nb)
        clear ks hst hgA hrg4 a0 a1 a2 a3 a4 a5 f0 f1 f2 f3 f4 f5 S3 HT3
        go_still_tail 14, (by kernel_rfl)
        change wpList _ _ _ _ _ w4.drew
        obtain ⟨w5, hw5⟩ : ∃ w5, w4.drew = w5 := ⟨_, rfl⟩
        have hb5 : Below w4.heap.size w4 w5 := by rw [← hw5]; exact Below.drew (Below.refl _ _)
        have S5 := Lib.hid (HST.out w5 hb5)
        have MB5 := Lib.hid (MB4.out.below hb5)
        have B5 : Hid (Below X W w5) := Lib.hid ((B3.out.trans (HKS.out.to_below (m := X) (by rw [← HX.out]; exact B3.out.size) (fun b hb e => by have := HXA.out.1; omega))).trans (hb5.mono (by rw [← HX.out]; exact Nat.le_trans B3.out.size HKS.out.size)))
        rw [hw5]
        clear hw5 hb5 hto4 c0 c1 c2 c3 c4 c5 HST MB4 HT4 HKS B3
        obtain ⟨a0, a1, a2, a3, a4, a5⟩ := range6 (MB5.out.reg tn HTA.out.1)
        obtain ⟨f0, f1, f2, f3, f4, f5⟩ := there6 (MB5.out.regThere tn HTA.out.1)
        have s5 := S5.out
        have b5 := below_setCells B HXA.out.2 (capC ⟨eb, et, ea, ep, ey, eg⟩) (6 + tn * 6) _ B5.out
        rw [set6_eq w5] at s5
        rw [show capC ⟨eb, et, ea, ep, ey, eg⟩ = [.int .u64 eb, .int .u64 et, .int .u64 ea, .int .i64 ep, .int .i64 ey, .bool eg] from rfl, set6_eq w5] at b5
        have S6 := Lib.hid s5
        have B6 := Lib.hid b5
        clear s5 b5 S5 B5 MB5
        have hlt := HLT.out
        have h60 := HN60.out
        go_wp2_with fail
        go_roundw
        case rel => exact ⟨k + 1, F, G, m, _, by go_num, by omega, S6, B6, NM⟩
        case measure => simp [intOf]; omega
      · have e3 : decide ((tn : Int) < 32) = false := decide_eq_false (by omega)
        obtain ⟨x, hx⟩ : ∃ x : Nat, 32 * (tn - 32) = x := ⟨_, rfl⟩
        have u1 : IntKind.i64.wrap ((tn : Int) - 32) = (tn : Int) - 32 := by rw [IntKind.wrap_i64]; omega
        have u2 : IntKind.i64.wrap (32 * ((tn : Int) - 32)) = (x : Int) := by rw [IntKind.wrap_i64]; omega
        have u3 : IntKind.u64.wrap (x : Int) = (x : Int) := by rw [IntKind.wrap_u64]; omega
        have C := Lib.hid (sstoreC_any w2 X M F m S2.out.own x ⟨eb, et, ea, ep, ey, eg⟩ (by omega) HFT.out)
        have HXX := Lib.hid (show x < 18446744073709551616 by omega)
        have NM : Hid (((storeC m (x : Int) ⟨eb, et, ea, ep, ey, eg⟩).1, rs) = bothF (l.take (k + 1))) := Lib.hid (by
          rw [HNX.out]
          unfold putS
          rw [if_neg (show ¬ ((tn : Nat) : Int) < 32 by omega)]
          simp only [Int.toNat_natCast]
          rw [hx])
        rw [show (capC ⟨eb, et, ea, ep, ey, eg⟩).toArray = #[.int .u64 eb, .int .u64 et, .int .u64 ea, .int .i64 ep, .int .i64 ey, .bool eg] from rfl] at C
        have HTO2 := Lib.hid hto2
        clear t1 t2 t3 hx
        go_wp2_with fail
        refine C.out.mono ?_; rintro e w3 ⟨rfl, F', hown, mv⟩
        have HMV := Lib.hid mv
        have HOW := Lib.hid hown
        have R3 := Lib.hid (S2.out.rma.kp mv.kp (Nat.le_refl _) (fun b hb hF => S2.out.fg b hF hb))
        have hgF : ¬ F g := fun h => by have := S2.out.own.ge g h; have := HGX.out; omega
        have hrg3 : w3.rangeAt g (off + k * 7 + 1) (capC ⟨eb, et, ea, ep, ey, eg⟩) := fun j v hv => mv.kp.cell (heap_lt_of_cell (HRG2.out j v hv)) hgF (HRG2.out j v hv)
        obtain ⟨c0, c1, c2, c3, c4, c5⟩ := range6 hrg3
        simp only [] at c0 c1 c2 c3 c4 c5
        have C := Lib.hid (rstoreC_any w3 R G m R3.out x ⟨eb, et, ea, ep, ey, eg⟩ HXX.out HFT.out)
        rw [show (capC ⟨eb, et, ea, ep, ey, eg⟩).toArray = #[.int .u64 eb, .int .u64 et, .int .u64 ea, .int .i64 ep, .int .i64 ey, .bool eg] from rfl] at C
        clear hown mv hgF hrg3 hto2 R3
        go_wp2_with fail
        refine C.out.mono ?_; rintro e w4 ⟨rfl, hr, hk⟩
        have hs := S2.out.store HOW.out HMV.out hr hk
        have S6 := Lib.hid hs.1
        have B6 := Lib.hid (B2.out.trans (hs.2.mono (Nat.le_refl _)))
        clear hs hr hk C HMV HOW S2 B2 c0 c1 c2 c3 c4 c5
        have hlt := HLT.out
        have h60 := HN60.out
        go_wp2_with fail
        go_roundw
        case rel => exact ⟨k + 1, F', _, _, rs, by go_num, by omega, S6, B6, NM⟩
        case measure => simp [intOf]; omega
    · obtain rfl : k = n := by omega
      have hd1 : decide ((k : Int) < (k : Int)) = false := by simp
      have hd2 : decide (k < k) = false := by simp
      have hfin := HMF.out
      rw [List.take_of_length_le (by rw [HN.out]; exact Nat.le_refl _)] at hfin
      have HFIN := Lib.hid hfin
      clear hlt hk hfin
      go_wp2_with fail
      go_ret2
      exact ⟨by rw [HX.out]; exact HB.out, Or.inr ⟨A, B, M, R, F, G, m, rs, rfl, by rw [HX.out]; exact HS.out, HFIN.out⟩⟩
end Go.Proofs.Ytinflemamegdfaa
