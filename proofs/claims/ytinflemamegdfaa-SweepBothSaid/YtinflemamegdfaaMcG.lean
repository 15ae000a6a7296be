/- The document's sweep: contract. -/
import Derived.Test.YtinflemamegdfaaMcF
import Derived.Test.YtinflemamegdfaaMcE
namespace Go.Proofs.Ytinflemamegdfaa
set_option linter.unusedVariables false
set_option linter.unusedSimpArgs false
open Go.Joins Go.ChangeShapes Go.WideShapes Go.ChangeAt Go.RowKit Go.Deep

def stepD (p : Mm × Int) (x : Nat) : Mm × Int := ((storeC p.1 (x : Int) (clrC (loadC p.1 (x : Int)).1)).1, p.2 + 1)
def swD (m : Mm) (l : List Nat) : Mm × Int := l.foldl stepD (m, 0)
theorem swD_nil (m : Mm) : swD m [] = (m, 0) := rfl
theorem swD_snoc (m : Mm) (l : List Nat) (k : Nat) (h : k < l.length) : swD m (l.take (k + 1)) = stepD (swD m (l.take k)) l[k] := by
  unfold swD
  rw [List.take_succ_eq_append_getElem h, List.foldl_append]
  rfl
theorem swD_cnt (m : Mm) (l : List Nat) : ∀ k, k ≤ l.length → (swD m (l.take k)).2 = k
  | 0, _ => by rw [List.take_zero, swD_nil]; rfl
  | k + 1, h => by
    have := swD_cnt m l k (by omega)
    rw [swD_snoc m l k (by omega)]
    unfold stepD
    simp only []
    omega
theorem fit_clr2 {c : Cp} (h : FitC c) : FitC (clrC c) := ⟨h.b0, h.b1, h.t0, h.t1, h.a0, h.a1⟩
set_option maxRecDepth 100000 in
set_option maxHeartbeats 4000000 in
theorem rsweep_any (W : World) (R A : Nat) (F : Nat → Prop) (m : Mm) (pc : Cp) (rs : List Cp) (f n ty : Int) (hO : RmAt W R F m) (hm : McAt W A R pc rs) (hA : ¬ F A) (hfp : FitC pc) (hfr : ∀ c ∈ rs, FitC c) (f0 : 0 ≤ f) (f1 : f < 18446744073709551616) (n0 : 0 ≤ n) (n1 : n < 18446744073709551616) :
    Calls Try.prog 15 #[.pointer (some ⟨A, 0, none⟩), .int .u64 f, .int .u64 n, .int .i64 ty] W fun e W' => e = .returned (.int .i64 (cnt f n ty pc + cntN f n ty rs 32 + (swD m (gran f n ty m)).2)) ∧
      ∃ F', RmAt W' R F' (swD m (gran f n ty m)).1 ∧ (∀ b, F' b → F b ∨ W.heap.size ≤ b) ∧ ¬ F' A ∧ McAt W' A R (swp f n ty pc) (swR f n ty rs) ∧ KP W.heap.size (fun b => F b ∨ b = A) W W' := by
  have HO := Lib.hid hO
  have HNA := Lib.hid hA
  have HAL := Lib.hid hm.lt
  have HFL := Lib.hid hO.lt
  have HLN := Lib.hid hm.len
  have HFR := Lib.hid hfr
  have HM := Lib.hid hm
  have HTC := Lib.hid (fun c w (hc : FitC c) => rtch_any c f n ty w hc f0 f1 n0 n1)
  have HLF := Lib.hid (fun (w : World) (G : Nat → Prop) (mm : Mm) (pc2 : Cp) (rs2 : List Cp) (h : RmAt w R G mm) (h2 : McAt w A R pc2 rs2) => rleft_any w R A G mm pc2 rs2 f n ty h h2 f0 f1 n0 n1)
  have HCB := Lib.hid (cnt_le f n ty pc)
  have CP := Lib.hid (fun w => HTC.out pc w hfp)
  obtain ⟨q, hq⟩ : ∃ q, tch f n ty pc = q := ⟨_, rfl⟩
  rw [hq] at CP
  have HSW : Hid (swp f n ty pc = if q = true then clrC pc else pc) := Lib.hid (by unfold swp; rw [hq])
  have HCN : Hid (cnt f n ty pc = if q = true then 1 else 0) := Lib.hid (by unfold cnt; rw [hq])
  obtain ⟨spc, hspc⟩ : ∃ spc, swp f n ty pc = spc := ⟨_, rfl⟩
  obtain ⟨npc, hnpc⟩ : ∃ npc, cnt f n ty pc = npc := ⟨_, rfl⟩
  rw [hspc] at HSW ⊢
  rw [hnpc] at HCN HCB ⊢
  have hpr := range6 hm.pcAt
  have hpt := there6 hm.pcThere
  simp only [Nat.zero_add] at hpr hpt
  obtain ⟨p0, p1, p2, p3, p4, p5⟩ := hpr
  obtain ⟨cb, ct, ca, cp, cy, cg⟩ := pc
  simp only [] at p0 p1 p2 p3 p4 p5 CP
  clear hO hm hA hfp hfr f0 f1 n0 n1 hq hspc hnpc hpt
  go_enter Try.func15, Try.ntmps15
  go_wp2_with fail
  refine (CP.out _).mono ?_; rintro e W1 ⟨rfl, hb⟩
  have B1 := Lib.hid hb
  have M1 := Lib.hid (HM.out.below hb)
  have hpr := range6 M1.out.pcAt
  have hpt := there6 M1.out.pcThere
  simp only [Nat.zero_add] at hpr hpt
  obtain ⟨p0, p1, p2, p3, p4, p5⟩ := hpr
  obtain ⟨f0, f1, f2, f3, f4, f5⟩ := hpt
  clear hb HM CP
  go_upto_if 25 with fail
  go_cut [9, 10] from 17 (fun s9 s10 wx => s9 = .int .i64 npc ∧ Hid (McAt wx A R spc rs) ∧ Hid (KP W.heap.size (fun b => b = A) W wx))
  case first =>
    cases q with
    | false =>
      have e1 := HSW.out
      have e2 := HCN.out
      rw [if_neg (by decide)] at e1 e2
      subst e1 e2
      go_wp2_with fail
      go_meet
      exact ⟨rfl, M1, Lib.hid (KP.of_below _ B1.out)⟩
    | true =>
      have e1 := HSW.out
      have e2 := HCN.out
      rw [if_pos rfl] at e1 e2
      subst e1 e2
      go_wp2_with fail
      refine (rclear_any cb ct ca cp cy cg _).mono ?_; rintro e W2 ⟨rfl, hb⟩
      have M2 := Lib.hid (M1.out.below hb)
      have B2 := Lib.hid (B1.out.trans (hb.mono B1.out.size))
      have hpr := range6 M2.out.pcAt
      have hpt := there6 M2.out.pcThere
      simp only [Nat.zero_add] at hpr hpt
      obtain ⟨p0, p1, p2, p3, p4, p5⟩ := hpr
      obtain ⟨f0, f1, f2, f3, f4, f5⟩ := hpt
      have h3 := M2.out.setPc (clrC ⟨cb, ct, ca, cp, cy, cg⟩)
      have b3 := kp_setCells (n := W.heap.size) (S := fun b => b = A) A (Or.inr rfl) (capC (clrC ⟨cb, ct, ca, cp, cy, cg⟩)) 0 _ (KP.of_below _ B2.out)
      rw [show capC (clrC ⟨cb, ct, ca, cp, cy, cg⟩) = [.int .u64 cb, .int .u64 ct, .int .u64 ca, .int .i64 cp, .int .i64 cy, .bool false] from rfl, set6_eq] at h3 b3
      simp only [Nat.zero_add] at h3 b3
      have H3 := Lib.hid h3
      have B3 := Lib.hid b3
      clear hb h3 b3 M1 B1
      go_wp2_with fail
      go_meet
      exact ⟨rfl, H3, B3⟩
  case rest =>
    obtain ⟨rfl, M2, K2⟩ := hcut
    have S0 : Hid (RegsTo f n ty rs rs 1) := Lib.hid ⟨rfl, fun j h h' => by rw [if_neg (by omega)]⟩
    clear HSW HCN M1 B1 p0 p1 p2 p3 p4 p5 f0 f1 f2 f3 f4 f5
    go_wp2_with fail
    go_loopw [9, 11, 12] (fun v9 v11 v12 wr => ∃ (k : Nat) (rs' : List Cp), v11 = .int .i64 (k : Int) ∧ v9 = .int .i64 (npc + cntN f n ty rs k) ∧ 1 ≤ k ∧ k ≤ 32 ∧ Hid (RegsTo f n ty rs rs' k) ∧ Hid (McAt wr A R spc rs') ∧ Hid (KP W.heap.size (fun b => b = A) W wr)) (fun _ i _ _ => 32 - (intOf i).toNat)
    case atStart => exact ⟨1, rs, rfl, by rw [show cntN f n ty rs 1 = 0 from rfl, Int.add_zero], by omega, by omega, S0, M2, K2⟩
    case round =>
      obtain ⟨k, rs', rfl, rfl, hk1, hk, HR, HM, HK⟩ := hrel
      clear S0 M2 K2
      by_cases hlt : k < 32
      · have hd1 : decide ((k : Int) < 32) = true := decide_eq_true (by omega)
        have kk0 : (0 : Int) ≤ (k : Int) := by omega
        have kk1 : (k : Int) < 32 := by omega
        have hkr : k < rs.length := by rw [HLN.out]; exact hlt
        have hkr' : k < rs'.length := by rw [HR.out.1]; exact hkr
        have hat := HR.out.at_ hkr
        have hreg := HM.out.reg k hkr'
        rw [hat] at hreg
        obtain ⟨c0, c1, c2, c3, c4, c5⟩ := range6 hreg
        have C := Lib.hid (fun w => HTC.out rs[k] w (HFR.out _ (List.getElem_mem hkr)))
        have hcs := cntN_succ (f := f) (n := n) (ty := ty) hk1 hkr
        have hnx := HR.out.step hk1 hkr
        have hsw : swp f n ty rs[k] = if tch f n ty rs[k] = true then clrC rs[k] else rs[k] := rfl
        have hcn : cnt f n ty rs[k] = if tch f n ty rs[k] = true then 1 else 0 := rfl
        have hset : rs'.set k rs[k] = rs' := by rw [← hat]; exact List.set_getElem_self _
        have hle := cntN_le f n ty rs k
        have HNB : Hid (-9000000 ≤ npc + cntN f n ty rs k ∧ npc + cntN f n ty rs k ≤ 9000000) := Lib.hid (by have := HCB.out; omega)
        obtain ⟨c, hce⟩ : ∃ c, rs[k] = c := ⟨_, rfl⟩
        rw [hce] at C hcs hnx hsw hcn hset hat c0 c1 c2 c3 c4 c5
        have HAT := Lib.hid hat
        obtain ⟨r, hrr⟩ : ∃ r, tch f n ty c = r := ⟨_, rfl⟩
        rw [hrr] at C hsw hcn
        rw [hcn] at hcs
        rw [hsw] at hnx
        have HN := Lib.hid hnx
        have HCS := Lib.hid hcs
        have HKR := Lib.hid (And.intro hkr' hlt)
        have HSET := Lib.hid hset
        obtain ⟨cb, ct, ca, cp, cy, cg⟩ := c
        simp only [] at C c0 c1 c2 c3 c4 c5
        clear hreg hat hcs hnx hsw hcn hset hle hce hrr hk hlt
        obtain ⟨u, hu⟩ : ∃ u, npc + cntN f n ty rs k = u := ⟨_, rfl⟩
        rw [hu] at HNB
        have HU := Lib.hid hu
        rw [hu]
        clear hu
        go_wp2_with fail
        refine (C.out _).mono ?_; rintro e w2 ⟨rfl, hb⟩
        have hzk : W.heap.size ≤ wr.heap.size := HK.out.size
        have K3 := Lib.hid (HK.out.below hb hzk)
        have M3 := Lib.hid (HM.out.below hb)
        clear hb C HK HM hzk c0 c1 c2 c3 c4 c5
        cases r with
        | false =>
          have h1 := HN.out
          have h2 := HCS.out
          rw [if_neg (by decide)] at h1 h2
          rw [HSET.out] at h1
          rw [Int.add_zero] at h2
          have N1 := Lib.hid h1
          have N2 : Hid (npc + cntN f n ty rs (k + 1) = u) := Lib.hid (by rw [h2]; exact HU.out)
          clear h1 h2 HN HCS
          go_wp2_with fail
          have hlt := HKR.out.2
          go_roundw
          case rel => exact ⟨k + 1, rs', by go_num, by rw [N2.out], by omega, by omega, N1, M3, K3⟩
          case measure => simp [intOf]; omega
        | true =>
          have h1 := HN.out
          have h2 := HCS.out
          rw [if_pos rfl] at h1 h2
          have N1 := Lib.hid h1
          have N2 : Hid (npc + cntN f n ty rs (k + 1) = u + 1) := Lib.hid (by rw [h2, ← Int.add_assoc, HU.out])
          have hreg := M3.out.reg k HKR.out.1
          rw [HAT.out] at hreg
          have hthe := M3.out.regThere k HKR.out.1
          have hregd : w2.drew.rangeAt A (6 + k * 6) (capC ⟨cb, ct, ca, cp, cy, cg⟩) := hreg
          obtain ⟨c0, c1, c2, c3, c4, c5⟩ := range6 hregd
          simp only [] at c0 c1 c2 c3 c4 c5
          have HTH := Lib.hid hthe
          skip
          have hlen := HKR.out.2
          clear h1 h2 HN HCS hreg hthe hregd
          go_upto_region 11 with fail
          go_region_law (first
            | (go_simp; go_at_call 38; refine (rclear_any cb ct ca cp cy cg _).mono ?_; rintro e w3 ⟨rfl, hb⟩; have hb := undrewB hb; have M4 := Lib.hid (M3.out.below hb); have K4 := Lib.hid (K3.out.below hb K3.out.size); obtain ⟨g0, g1, g2, g3, g4, g5⟩ := range6 (M4.out.reg k HKR.out.1); obtain ⟨f0, f1, f2, f3, f4, f5⟩ := there6 (M4.out.regThere k HKR.out.1); clear hb; dsimp only))
          all_goals
            have h3 := M4.out.setReg k HKR.out.1 ⟨cb, ct, ca, cp, cy, false⟩
            have b3 := kp_setCells (n := W.heap.size) (S := fun b => b = A) A (Or.inr rfl) (capC ⟨cb, ct, ca, cp, cy, false⟩) (6 + k * 6) _ K4.out
            rw [show capC ⟨cb, ct, ca, cp, cy, false⟩ = [.int .u64 cb, .int .u64 ct, .int .u64 ca, .int .i64 cp, .int .i64 cy, .bool false] from rfl, set6_eq] at h3 b3
            generalize (((((w3.setCell ⟨A, 6 + k * 6, none⟩ (.int .u64 cb)).setCell ⟨A, 6 + k * 6 + 1, none⟩ (.int .u64 ct)).setCell ⟨A, 6 + k * 6 + 2, none⟩ (.int .u64 ca)).setCell ⟨A, 6 + k * 6 + 3, none⟩ (.int .i64 cp)).setCell ⟨A, 6 + k * 6 + 4, none⟩ (.int .i64 cy)).setCell ⟨A, 6 + k * 6 + 5, none⟩ (.bool false) = W3 at *
            have H3 := Lib.hid h3
            have B3 := Lib.hid b3
            have wu : IntKind.i64.wrap (u + 1) = u + 1 := by have := HNB.out; rw [IntKind.wrap_i64]; omega
            clear h3 b3 c0 c1 c2 c3 c4 c5 g0 g1 g2 g3 g4 g5 f0 f1 f2 f3 f4 f5 M3 M4 K3 K4 HTH HAT HSET
            go_wp2_with fail
            have hlt := HKR.out.2
            go_roundw
            case rel => exact ⟨k + 1, _, by go_num, by rw [N2.out], by omega, by omega, N1, H3, B3⟩
            case measure => simp [intOf]; omega
      · obtain rfl : k = 32 := by omega
        have hrs := HR.out.all (by rw [HLN.out]; omega)
        subst hrs
        have hd1 : decide ((32 : Int) < 32) = false := by decide
        have hrm : RmAt wr R F m := HO.out.kp HK.out (Nat.le_refl _) (fun b hb e => HNA.out (e ▸ hb))
        have C := Lib.hid (HLF.out wr F m spc (swR f n ty rs) hrm HM.out)
        have HRM := Lib.hid hrm
        have HGL : Hid ((gran f n ty m).length ≤ 2048) := Lib.hid (by
          unfold gran
          refine Nat.le_trans (List.length_filter_le _ _) ?_
          rw [List.length_map]
          exact mks_len hrm.okm)
        obtain ⟨l, hl⟩ : ∃ l, gran f n ty m = l := ⟨_, rfl⟩
        rw [hl] at C HGL
        have HLE := Lib.hid hl
        have HMK : Hid (∀ x ∈ l, x < 16777216) := Lib.hid (fun x hx => by
          rw [← hl] at hx
          exact (mark_load hrm.okm (List.mem_filter.1 hx).1).1)
        obtain ⟨d, hd⟩ : ∃ d, l.length = d := ⟨_, rfl⟩
        rw [hd] at C HGL
        have HD := Lib.hid hd
        obtain ⟨c0, hc0⟩ : ∃ c0, npc + cntN f n ty rs 32 = c0 := ⟨_, rfl⟩
        rw [hc0]
        have HC0 := Lib.hid hc0
        have HC0B : Hid (0 ≤ c0 ∧ c0 ≤ 40) := Lib.hid (by
          have h1 := HCB.out
          have h2 := cntN_le f n ty rs 32
          omega)
        clear hlt hk hk1 HR hl hd hrm hc0
        go_wp2_with fail
        refine C.out.mono ?_; rintro e W9 ⟨ga, gc, rfl, hor, hb⟩
        obtain ⟨V, hV⟩ : ∃ V, W9.heap.size = V := ⟨_, rfl⟩
        have HV := Lib.hid hV
        have HRW := Lib.hid (row_later hor (Below.refl _ _))
        have HRB : Hid (∀ g off, 0 < d → ga = some ⟨g, off, none⟩ → wr.heap.size ≤ g ∧ g < V) := Lib.hid (fun g off h0 e => by
          rcases hor.2 with ⟨e1, h1⟩ | ⟨g', cap', cur', e1, hg', hbk, -⟩
          · omega
          · cases e1; cases e; exact ⟨hg', by rw [← hV]; exact (Array.getElem?_eq_some_iff.1 hbk).1⟩)
        have M9 := Lib.hid (HM.out.below hb)
        have R9 := Lib.hid (HRM.out.below hb)
        have K9 := Lib.hid (HK.out.below hb HK.out.size)
        have HZR : Hid (W.heap.size ≤ wr.heap.size ∧ W.heap.size ≤ V ∧ A < V) := Lib.hid ⟨HK.out.size, by rw [← hV]; exact Nat.le_trans HK.out.size hb.size, by rw [← hV]; exact M9.out.lt⟩
        clear hor hb C HK HM HRM hV
        go_wp2_with fail
        go_loopw [9, 14, 15, 16] (fun v9 i x1 x2 wx => ∃ (k : Nat) (G : Nat → Prop), i = .int .i64 (k : Int) ∧ v9 = .int .i64 (c0 + (k : Int)) ∧ k ≤ d ∧ Hid (RmAt wx R G (swD m (l.take k)).1) ∧ Hid (∀ b, G b → F b ∨ V ≤ b) ∧ Hid (KP V F W9 wx)) (fun _ i _ _ _ => d - (intOf i).toNat)
        case atStart => exact ⟨0, F, rfl, by simp, Nat.zero_le _, Lib.hid (by rw [List.take_zero, swD_nil]; exact R9.out), Lib.hid (fun b hb => Or.inl hb), Lib.hid (KP.refl _ _ _)⟩
        case round =>
          obtain ⟨k, G, rfl, rfl, hk, HOW, HG, HKP⟩ := hrel
          have hGA : ¬ G A := fun h => by
            rcases HG.out A h with h1 | h1
            · exact HNA.out h1
            · have := HZR.out.2.2; omega
          have hma := M9.out.kp HKP.out HZR.out.2.2 HNA.out
          have hcb := HC0B.out
          have hgl := HGL.out
          by_cases hlt : k < d
          · have hkl : k < l.length := by rw [HD.out]; exact hlt
            have mem := hma.mem
            have hrow := HKP.out.rd HRW.out (fun b off h0 e => by
              obtain ⟨q1, q2⟩ := HRB.out b off h0 e
              refine ⟨q2, fun hS => ?_⟩
              have := HFL.out b hS; have := HZR.out.1; omega)
            obtain ⟨g, off, hge, -, hc⟩ := hrow.at_ hlt
            obtain ⟨q1, q2⟩ := HRB.out g off (by omega) hge
            have HGG : Hid (¬ F g ∧ g < V) := Lib.hid ⟨fun hS => by have := HFL.out g hS; have := HZR.out.1; omega, q2⟩
            rw [u64s_get l k hkl] at hc
            have hsn := swD_snoc m l k hkl
            have hx := HMK.out l[k] (List.getElem_mem hkl)
            obtain ⟨x, hxe⟩ : ∃ x, l[k] = x := ⟨_, rfl⟩
            rw [hxe] at hc hsn hx
            obtain ⟨⟨mk, ck⟩, hmk⟩ : ∃ p, swD m (l.take k) = p := ⟨_, rfl⟩
            rw [hmk] at hsn HOW
            unfold stepD at hsn
            simp only [] at hsn HOW
            have hfit := loadC_fit HOW.out.okm (x : Int)
            have C := Lib.hid (fun w (h : Below wr.heap.size wr w) => rloadC_any w R G mk (HOW.out.below h) x (by omega))
            obtain ⟨⟨c, e0⟩, hce⟩ : ∃ p, loadC mk (x : Int) = p := ⟨_, rfl⟩
            rw [hce] at C hsn hfit
            simp only [] at C hsn hfit
            have hfit2 := fit_clr2 hfit
            have HSN := Lib.hid hsn
            have HLT := Lib.hid (And.intro hlt hgl)
            have HXX := Lib.hid (show x < 18446744073709551616 by omega)
            have HST := Lib.hid (fun (w : World) (h : RmAt w R G mk) => rstoreC_any w R G mk h x (clrC c) HXX.out hfit2)
            obtain ⟨sm, hsm⟩ : ∃ sm, storeC mk (x : Int) (clrC c) = sm := ⟨_, rfl⟩
            rw [hsm] at HST HSN
            obtain ⟨cb, ct, ca, cp, cy, cg⟩ := c
            rw [show (capC ⟨cb, ct, ca, cp, cy, cg⟩).toArray = #[.int .u64 cb, .int .u64 ct, .int .u64 ca, .int .i64 cp, .int .i64 cy, .bool cg] from rfl] at C
            rw [show (capC (clrC ⟨cb, ct, ca, cp, cy, cg⟩)).toArray = #[.int .u64 cb, .int .u64 ct, .int .u64 ca, .int .i64 cp, .int .i64 cy, .bool false] from rfl] at HST
            have kk0 : (0 : Int) ≤ (k : Int) := by omega
            have kk1 : (k : Int) < (d : Int) := by omega
            have hd2 : decide ((k : Int) < (d : Int)) = true := decide_eq_true kk1
            have HGA := Lib.hid hGA
            have HNB : Hid (A < wr.heap.size ∧ g < wr.heap.size) := Lib.hid ⟨heap_lt_of_cell mem, heap_lt_of_cell hc⟩
            subst hge
            have HS0 := Lib.hid (And.intro mem hc)
            have HSd : Hid (wr.drew.cell? ⟨A, 198, none⟩ = some (.pointer (some ⟨R, 0, none⟩)) ∧ wr.drew.cell? ⟨g, off + k, none⟩ = some (.int .u64 (x : Int))) := Lib.hid HS0.out
            have HBZ : Hid (Below wr.heap.size wr (wr.alloc (.cells #[.int .u64 0, .int .u64 0, .int .u64 0, .int .i64 0, .int .i64 0, .bool false] 24))) := Lib.hid (bAlloc (Below.refl _ _) _)
            clear hsn hx hxe hmk hfit hce hfit2 hsm hkl hlt hrow hma hGA hk hcb hgl q1 q2
            go_upto_region 17 with fail
            go_cut [15, 16, 101] from 70 (fun s15 s16 s101 wx => ∃ P : Nat, s15 = .pointer (some ⟨P, 0, none⟩) ∧ s16 = .int .i64 e0 ∧ s101 = u101 ∧ Hid (Below wr.heap.size wr wx) ∧ Hid (BoxN wx P #[.int .u64 cb, .int .u64 ct, .int .u64 ca, .int .i64 cp, .int .i64 cy, .bool cg]) ∧ Hid (wr.heap.size ≤ P))
            case first =>
              go_region_held3 (fun W => W.cell? ⟨A, 198, none⟩ = some (.pointer (some ⟨R, 0, none⟩)) ∧ W.cell? ⟨g, off + k, none⟩ = some (.int .u64 (x : Int)))
                (first | with_reducible exact HSd.out | with_reducible exact HS8.out | with_reducible exact HS9.out | with_reducible exact ⟨cell_set6 HNB.out.1 HS9.out.1, cell_set6 HNB.out.2 HS9.out.2⟩ | with_reducible exact ⟨cell_alloc _ HS8.out.1, cell_alloc _ HS8.out.2⟩ | with_reducible exact ⟨cell_alloc _ HSd.out.1, cell_alloc _ HSd.out.2⟩ | go_keep)
                (first
                  | ((with_reducible refine (C.out wr.drew (Below.drew (Below.refl _ _))).mono ?_); rintro e w8 ⟨rfl, hb⟩; have hb := undrewB hb; have HS8 := Lib.hid (And.intro ((hb.cell (heap_lt_of_cell HS0.out.1)).trans HS0.out.1) ((hb.cell (heap_lt_of_cell HS0.out.2)).trans HS0.out.2)); have HB8 := Lib.hid hb; clear hb)
                  | ((with_reducible refine (C.out (wr.alloc (.cells #[.int .u64 0, .int .u64 0, .int .u64 0, .int .i64 0, .int .i64 0, .bool false] 24)).drew (Below.drew HBZ.out)).mono ?_); rintro e w9 ⟨rfl, hb⟩; have hb := undrewB hb; have hb9 : Below wr.heap.size wr w9 := HBZ.out.trans (hb.mono HBZ.out.size); have HS9 := Lib.hid (And.intro ((hb9.cell (heap_lt_of_cell HS0.out.1)).trans HS0.out.1) ((hb9.cell (heap_lt_of_cell HS0.out.2)).trans HS0.out.2)); have HB9 := Lib.hid hb9; have X9 := Lib.hid (boxN_below (BoxN.new wr #[.int .u64 0, .int .u64 0, .int .u64 0, .int .i64 0, .int .i64 0, .bool false] 24) hb); have yz := hb.size; rw [size_alloc] at yz; have yf := X9.out.frozen; have yy := (boxN6 X9.out).1; obtain ⟨z0, z1, z2, z3, z4, z5⟩ := yy; clear hb hb9))
              · go_wp2_with fail
                go_meet
                exact ⟨w8.heap.size, rfl, rfl, rfl, Lib.hid (HB8.out.trans ((bAlloc (Below.refl _ _) _).mono HB8.out.size)), Lib.hid (BoxN.new w8 _ _), Lib.hid HB8.out.size⟩
              · go_wp2_with fail
                go_meet
                exact ⟨wr.heap.size, rfl, rfl, rfl, Lib.hid (below_set6 HB9.out (Nat.le_refl _)), Lib.hid (boxN_mid wr.heap.size [.int .u64 cb, .int .u64 ct, .int .u64 ca, .int .i64 cp, .int .i64 cy, .bool cg] [] [.int .u64 0, .int .u64 0, .int .u64 0, .int .i64 0, .int .i64 0, .bool false] [] w9 rfl X9.out), Lib.hid (Nat.le_refl _)⟩
            case rest =>
              obtain ⟨P, rfl, rfl, rfl, HX, HP, HPP⟩ := hcut
              have hvw : V ≤ wr.heap.size := by rw [← HV.out]; exact HKP.out.size
              have RC := Lib.hid (HOW.out.below HX.out)
              have KC := Lib.hid (HKP.out.below HX.out hvw)
              have HNG : Hid (¬ G A ∧ ¬ G g ∧ ¬ G P) := Lib.hid ⟨HGA.out, fun h => by
                rcases HG.out g h with h1 | h1
                · exact HGG.out.1 h1
                · have := HGG.out.2; omega, fun h => by have := HOW.out.lt P h; have := HPP.out; omega⟩
              have hm8 := (HX.out.cell (heap_lt_of_cell HS0.out.1)).trans HS0.out.1
              have hc8 := (HX.out.cell (heap_lt_of_cell HS0.out.2)).trans HS0.out.2
              have hp8 := (boxN6 HP.out).1
              have HT0 := Lib.hid (And.intro hm8 (And.intro hc8 hp8))
              have HTd : Hid (wc.drew.cell? ⟨A, 198, none⟩ = some (.pointer (some ⟨R, 0, none⟩)) ∧ wc.drew.cell? ⟨g, off + k, none⟩ = some (.int .u64 (x : Int)) ∧ wc.drew.cell? ⟨P, 0, none⟩ = some (.int .u64 cb) ∧ wc.drew.cell? ⟨P, 1, none⟩ = some (.int .u64 ct) ∧ wc.drew.cell? ⟨P, 2, none⟩ = some (.int .u64 ca) ∧ wc.drew.cell? ⟨P, 3, none⟩ = some (.int .i64 cp) ∧ wc.drew.cell? ⟨P, 4, none⟩ = some (.int .i64 cy) ∧ wc.drew.cell? ⟨P, 5, none⟩ = some (.bool cg)) := Lib.hid HT0.out
              clear HX HP HPP HKP HOW hm8 hc8 hp8 HS0 HSd HBZ C mem hc
              go_upto_region 18 with fail
              go_region_held3 (fun W => W.cell? ⟨A, 198, none⟩ = some (.pointer (some ⟨R, 0, none⟩)) ∧ W.cell? ⟨g, off + k, none⟩ = some (.int .u64 (x : Int)) ∧ W.cell? ⟨P, 0, none⟩ = some (.int .u64 cb) ∧ W.cell? ⟨P, 1, none⟩ = some (.int .u64 ct) ∧ W.cell? ⟨P, 2, none⟩ = some (.int .u64 ca) ∧ W.cell? ⟨P, 3, none⟩ = some (.int .i64 cp) ∧ W.cell? ⟨P, 4, none⟩ = some (.int .i64 cy) ∧ W.cell? ⟨P, 5, none⟩ = some (.bool cg))
                (first | with_reducible exact HTd.out | with_reducible exact HT3.out | with_reducible exact HTn.out | go_keep)
                (first
                  | (go_at_call 38; (with_reducible refine (rclear_any cb ct ca cp cy cg _).mono ?_); rintro e w3 ⟨rfl, hb⟩; have hb := undrewB hb; have q := HT0.out; have HT3 := Lib.hid (And.intro ((hb.cell (heap_lt_of_cell q.1)).trans q.1) (And.intro ((hb.cell (heap_lt_of_cell q.2.1)).trans q.2.1) (And.intro ((hb.cell (heap_lt_of_cell q.2.2.1)).trans q.2.2.1) (And.intro ((hb.cell (heap_lt_of_cell q.2.2.2.1)).trans q.2.2.2.1) (And.intro ((hb.cell (heap_lt_of_cell q.2.2.2.2.1)).trans q.2.2.2.2.1) (And.intro ((hb.cell (heap_lt_of_cell q.2.2.2.2.2.1)).trans q.2.2.2.2.2.1) (And.intro ((hb.cell (heap_lt_of_cell q.2.2.2.2.2.2.1)).trans q.2.2.2.2.2.2.1) ((hb.cell (heap_lt_of_cell q.2.2.2.2.2.2.2)).trans q.2.2.2.2.2.2.2)))))))); have R3 := Lib.hid (RC.out.below hb); have K3 := Lib.hid (KC.out.below hb (by rw [← HV.out]; exact KC.out.size)); clear hb q)
                  | (go_at_call 34; (with_reducible refine (HST.out w3 R3.out).mono ?_); rintro e Wn ⟨rfl, hown, hkn⟩; have q := HT3.out; have RN := Lib.hid hown; have KN := Lib.hid hkn; have HTn := Lib.hid (And.intro (hkn.cell (heap_lt_of_cell q.1) HNG.out.1 q.1) (And.intro (hkn.cell (heap_lt_of_cell q.2.1) HNG.out.2.1 q.2.1) (And.intro (hkn.cell (heap_lt_of_cell q.2.2.1) HNG.out.2.2 q.2.2.1) (And.intro (hkn.cell (heap_lt_of_cell q.2.2.2.1) HNG.out.2.2 q.2.2.2.1) (And.intro (hkn.cell (heap_lt_of_cell q.2.2.2.2.1) HNG.out.2.2 q.2.2.2.2.1) (And.intro (hkn.cell (heap_lt_of_cell q.2.2.2.2.2.1) HNG.out.2.2 q.2.2.2.2.2.1) (And.intro (hkn.cell (heap_lt_of_cell q.2.2.2.2.2.2.1) HNG.out.2.2 q.2.2.2.2.2.2.1) (hkn.cell (heap_lt_of_cell q.2.2.2.2.2.2.2) HNG.out.2.2 q.2.2.2.2.2.2.2)))))))); clear hown hkn q))
              have hz3 : V ≤ w3.heap.size := by rw [← HV.out]; exact K3.out.size
              have N1 : Hid (RmAt Wn R (FN G w3 Wn) (swD m (l.take (k + 1))).1) := Lib.hid (by rw [HSN.out]; exact RN.out)
              have N2 : Hid (∀ b, FN G w3 Wn b → F b ∨ V ≤ b) := Lib.hid (fun b hb => by
                rcases hb with h1 | h1
                · exact HG.out b h1
                · exact Or.inr (Nat.le_trans hz3 h1.1))
              have N4 : Hid (KP V F W9 Wn) := Lib.hid (K3.out.trans (KN.out.mono hz3 (fun b hb hS => by
                rcases HG.out b hS with h1 | h1
                · exact h1
                · omega)))
              have wu : IntKind.i64.wrap (c0 + (k : Int) + 1) = c0 + (k : Int) + 1 := by have := HC0B.out; have := HLT.out; rw [IntKind.wrap_i64]; omega
              clear hz3 hvw HT0 HTd HT3 HTn R3 K3 RN KN RC KC HST HSN HG HNG
              obtain ⟨hk1, hk2⟩ := HLT.out
              go_wp2_with fail
              go_roundw
              case rel => exact ⟨k + 1, _, by go_num, by rw [show ((k + 1 : Nat) : Int) = (k : Int) + 1 by omega, ← Int.add_assoc], by omega, N1, N2, N4⟩
              case measure => simp [intOf]; omega
          · obtain rfl : k = d := by omega
            have ht : l.take k = l := List.take_of_length_le (by rw [HD.out]; exact Nat.le_refl _)
            have hcn := swD_cnt m l k (by rw [HD.out]; exact Nat.le_refl _)
            rw [ht] at HOW hcn
            have hd1 : decide ((k : Int) < (k : Int)) = false := by simp
            have hd2 : decide (k < k) = false := by simp
            have hfin : KP W.heap.size (fun b => F b ∨ b = A) W wr := (K9.out.mono (Nat.le_refl _) (T := fun b => F b ∨ b = A) (fun b hb hS => Or.inr hS)).trans (HKP.out.mono HZR.out.2.1 (fun b hb hS => Or.inl hS))
            have hfr : ∀ b, G b → F b ∨ W.heap.size ≤ b := fun b hb => by
              rcases HG.out b hb with h1 | h1
              · exact Or.inl h1
              · exact Or.inr (Nat.le_trans HZR.out.2.1 h1)
            have HFIN := Lib.hid (And.intro hfin hfr)
            have HRES := Lib.hid (show npc + cntN f n ty rs 32 + (swD m (gran f n ty m)).2 = c0 + (k : Int) by rw [HLE.out, HC0.out, hcn])
            have HMEM := Lib.hid (show (swD m (gran f n ty m)).1 = (swD m l).1 by rw [HLE.out])
            have HMA := Lib.hid (And.intro hma hGA)
            clear ht hcn hfin hfr hma hGA hlt hk hcb hgl HKP HG
            go_wp2_with fail
            go_ret
            exact ⟨by rw [HRES.out]; rfl, G, by rw [HMEM.out]; exact HOW.out, HFIN.out.2, HMA.out.2, HMA.out.1, HFIN.out.1⟩
end Go.Proofs.Ytinflemamegdfaa
