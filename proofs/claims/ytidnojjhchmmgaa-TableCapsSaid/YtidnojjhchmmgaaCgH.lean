/- The document's relocs: contract. -/
import Derived.Test.YtidnojjhchmmgaaCgC
import Derived.Test.YtidnojjhchmmgaaCeZ
import Derived.Deep.RegionHeld3
import Derived.Deep.QuietTactic
import Derived.BigQuiet
import Derived.BigRegion
namespace Go.Proofs.Ytidnojjhchmmgaa
set_option linter.unusedVariables false
set_option linter.unusedSimpArgs false
open Go.Joins Go.ChangeShapes Go.WideShapes Go.ChangeAt Go.RowKit Go.Deep

theorem firstI_hit {α : Type} {p : α → Bool} {l : List α} {k : Nat} (h : firstI p l = (k : Int)) : ∃ hk : k < l.length, p l[k] = true := by
  unfold firstI at h
  cases e : l.findIdx? p with
  | none => rw [e] at h; exact absurd h (by show ¬ (-1 : Int) = _; omega)
  | some i =>
    rw [e] at h
    have h : (i : Int) = (k : Int) := h
    obtain ⟨h1, h2, -⟩ := List.findIdx?_eq_some_iff_getElem.1 e
    obtain rfl : i = k := by omega
    exact ⟨h1, h2⟩
/-- what may be written there: the first segment that has it -/
theorem write_of_at {l : List Seg} {x n : Int} {k : Nat} (h : atF l x n = (k : Int)) (hk : k < l.length) (hf : l[k].flags = 2 ∨ l[k].flags = 3) : writeB l x n = true := by
  obtain ⟨h1, h2⟩ := firstI_hit h
  exact List.any_eq_true.2 ⟨l[k], List.getElem_mem hk, by rw [Bool.and_eq_true]; exact ⟨decide_eq_true hf, h2⟩⟩
def AheadR (sy : List Sym) (rl : List Rel) (k : Nat) (fz : Int) : Prop := (k = 0 ∧ fz = 0) ∨ ∃ (k1 : Nat) (n1 : Nat) (h : k1 < rl.length), k = k1 + 1 ∧ fz = rl[k1].place + roomZ sy rl[k1].sym ∧ rl[k1].sym = (n1 : Int) ∧ n1 < sy.length ∧ 0 ≤ rl[k1].place ∧ rl[k1].place ≤ 16384
theorem roomZ_or (sy : List Sym) (n : Int) : roomZ sy n = 32 ∨ roomZ sy n = 64 := by
  unfold roomZ
  split
  · exact Or.inr rfl
  · exact Or.inl rfl
set_option maxHeartbeats 8000000 in
set_option maxRecDepth 100000 in
theorem rrelocs_any (v0 v1 v5 v6 : Value) (ga sa ra : Option Addr) (m gc ms sc mr rc : Nat) (l : List Seg) (sy : List Sym) (rl : List Rel) (w : World) (hm : l.length = m) (hms : sy.length = ms) (hmr : rl.length = mr) (hg : RdG w ga l) (hs : RdS w sa sy) (hr : RdR w ra rl)
    (hl : m < 9223372036854775808) (hls : ms < 9223372036854775808) (hlr : mr < 9223372036854775808) (hsb : segsB 0 l = true) (hb : ∀ s ∈ l, u64B s.place ∧ u64B s.size) (hbr : ∀ x ∈ rl, u64B x.place) :
    Calls Try.prog 32 #[.agg #[v0, v1, .slice ga m gc, .slice sa ms sc, .slice ra mr rc, v5, v6]] w fun e w' => e = .returned (.bool (relsB l sy 0 rl)) ∧ Below w.heap.size w w' := by
  obtain ⟨r, hrr⟩ : ∃ r, relsB l sy 0 rl = r := ⟨_, rfl⟩
  rw [hrr]
  have HROOM := Lib.hid (fun W (hW : Below w.heap.size w W) (n : Nat) (hn : n < ms) => rroom_any v0 v1 (.slice ga m gc) (.slice ra mr rc) v5 v6 sa ms sc sy n W hms (hs.below hW) hls hn)
  have HAT := Lib.hid (fun W (hW : Below w.heap.size w W) x n (hx : u64B x) (hn : u64B n) => rat_any v0 v1 (.slice sa ms sc) (.slice ra mr rc) v5 v6 ga m gc l x n W hm (hg.below hW) hl hb hx hn)
  have HG := Lib.hid hg
  have HRL := Lib.hid hr
  have HM := Lib.hid hm
  have HMS := Lib.hid hms
  have HMR := Lib.hid hmr
  have HSB := Lib.hid hsb
  have HBR := Lib.hid hbr
  have HRR := Lib.hid hrr
  obtain ⟨W, hW⟩ : ∃ W, w.alloc (.cells #[v0, v1, .slice ga m gc, .slice sa ms sc, .slice ra mr rc, v5, v6] 28) = W := ⟨_, rfl⟩
  obtain ⟨B, hB⟩ : ∃ B, w.heap.size = B := ⟨_, rfl⟩
  have HBX : Hid (BoxN W B #[v0, v1, .slice ga m gc, .slice sa ms sc, .slice ra mr rc, v5, v6]) := Lib.hid (by rw [← hW, ← hB]; exact BoxN.new w _ _)
  have HBW : Hid (Below w.heap.size w W) := Lib.hid (by rw [← hW]; exact bAlloc (Below.refl _ _) _)
  have HW := Lib.hid hW
  have HBE := Lib.hid hB
  clear hm hms hmr hg hs hr hsb hb hbr hrr hW hB
  go_enter Try.func32, Try.ntmps32
  go_upto_region 1 with fail
  rw [HW.out, HBE.out]
  clear HW
  go_wp2_with fail
  go_loopw [3] (fun i wr => ∃ (k : Nat) (fz : Int), i = .int .i64 k ∧ k ≤ mr ∧ Hid (AheadR sy rl k fz) ∧ Hid (relsB l sy fz (rl.drop k) = r) ∧ Hid (Below w.heap.size w wr) ∧ Hid (BoxN wr B #[v0, v1, .slice ga m gc, .slice sa ms sc, .slice ra mr rc, v5, v6])) (fun i _ => mr - (intOf i).toNat)
  case atStart => exact ⟨0, 0, rfl, by omega, Lib.hid (Or.inl ⟨rfl, rfl⟩), Lib.hid HRR.out, HBW, HBX⟩
  case round =>
    clear HBX
    obtain ⟨k, fz, rfl, hk, HAH, HQ, HB, HBX⟩ := hrel
    have o4 : wr.cell? ⟨B, 4, none⟩ = some (.slice ra mr rc) := HBX.out.cell 4
    by_cases hlt : k < mr
    · have hkl : k < rl.length := by rw [HMR.out]; exact hlt
      obtain ⟨g, off, hge, -, c0, c1⟩ := (HRL.out.below HB.out).at_ hkl
      subst hge
      have hbd := HBR.out _ (List.getElem_mem hkl)
      have hq := HQ.out
      rw [List.drop_eq_getElem_cons hkl] at hq
      have HAH2 : Hid (∀ n : Nat, rl[k].sym = (n : Int) → n < sy.length → 0 ≤ rl[k].place → rl[k].place ≤ 16384 → AheadR sy rl (k + 1) (rl[k].place + roomZ sy rl[k].sym)) := Lib.hid (fun n h0 h1 h2 h3 => Or.inr ⟨k, n, hkl, rfl, rfl, h0, h1, h2, h3⟩)
      obtain ⟨x, hx⟩ : ∃ x, rl[k] = x := ⟨_, rfl⟩
      rw [hx] at c0 c1 hbd hq HAH2
      have hq : (relB l sy fz x && relsB l sy (x.place + roomZ sy x.sym) (rl.drop (k + 1))) = r := hq
      obtain ⟨p, n⟩ := x
      simp only [] at c0 c1 hbd hq HAH2
      obtain ⟨p0, p1⟩ := hbd
      have hrb : relB l sy fz ⟨p, n⟩ = (decide (p % 32 = 0) && (decide (0 ≤ n) && (decide (n < ms) && (decide (fz ≤ p) && writeB l p (roomZ sy n))))) := by unfold relB; rw [HMS.out]
      rw [hrb] at hq
      have HQ2 := Lib.hid hq
      have kk0 : (0 : Int) ≤ (k : Int) := by omega
      have kk1 : (k : Int) < (mr : Int) := by omega
      obtain ⟨B4, hB4⟩ : ∃ B4, wr.heap.size = B4 := ⟨_, rfl⟩
      obtain ⟨W4, hW4⟩ : ∃ W4, wr.alloc (.cells #[.int .u64 p, .int .i64 n] 67) = W4 := ⟨_, rfl⟩
      have HB4 : Hid (Below w.heap.size w W4) := Lib.hid (by rw [← hW4]; exact bAlloc HB.out _)
      have HX4 : Hid (BoxN W4 B4 #[.int .u64 p, .int .i64 n]) := Lib.hid (by rw [← hW4, ← hB4]; exact BoxN.new wr _ _)
      have HBX4 : Hid (BoxN W4 B #[v0, v1, .slice ga m gc, .slice sa ms sc, .slice (some ⟨g, off, none⟩) mr rc, v5, v6]) := Lib.hid (by rw [← hW4]; exact boxN_alloc HBX.out _)
      have HW4 := Lib.hid hW4
      have HB4E := Lib.hid hB4
      clear hW4 hB4 hq hrb hx HQ
      go_upto_region 5 with fail
      rw [HW4.out, HB4E.out]
      clear HW4
      have q0 : W4.cell? ⟨B4, 0, none⟩ = some (.int .u64 p) := HX4.out.cell 0
      have q1 : W4.cell? ⟨B4, 1, none⟩ = some (.int .i64 n) := HX4.out.cell 1
      have o3 : W4.cell? ⟨B, 3, none⟩ = some (.slice sa ms sc) := HBX4.out.cell 3
      clear o4 c0 c1 HBX
      by_cases hC : p % 32 = 0 ∧ 0 ≤ n ∧ n < ms
      · obtain ⟨h1, h2, h3⟩ := hC
        have hq2 : ((decide (fz ≤ p) && writeB l p (roomZ sy n)) && relsB l sy (p + roomZ sy n) (rl.drop (k + 1))) = r := by
          have := HQ2.out
          rw [decide_eq_true h1, decide_eq_true h2, decide_eq_true h3] at this
          simpa using this
        have HQ3 := Lib.hid hq2
        clear hq2 HQ2
        obtain ⟨nn, rfl⟩ := Int.eq_ofNat_of_zero_le h2
        have hnn : nn < ms := by omega
        have n1 : ¬ (nn : Int) < 0 := by omega
        have n2 : ¬ (ms : Int) ≤ (nn : Int) := by omega
        have hro := roomZ_or sy (nn : Int)
        obtain ⟨rm, hrm⟩ : ∃ rm, roomZ sy (nn : Int) = rm := ⟨_, rfl⟩
        have HC1 := Lib.hid (fun W hW => HROOM.out W hW nn hnn)
        have hrb : 0 ≤ rm ∧ rm ≤ 64 := by rw [← hrm]; omega
        have hrmp : 0 < rm := by rw [← hrm]; omega
        rw [hrm] at HC1 HQ3 HAH2
        obtain ⟨r0, r1⟩ := hrb
        have hrm0 : 0 < rm := hrmp
        clear hrmp
        clear hro hrm
        have HC2 := Lib.hid (fun W hW => HAT.out W hW p rm ⟨p0, p1⟩ ⟨r0, by omega⟩)
        rcases HAH.out with ⟨hk0, rfl⟩ | ⟨k1, m1, hk1l, hk1, hfz, hs1, hm1, a0, a1⟩
        · have HQ4 : Hid ((writeB l p rm && relsB l sy (p + rm) (rl.drop (k + 1))) = r) := Lib.hid (by have := HQ3.out; rwa [decide_eq_true p0, Bool.true_and] at this)
          have n0 : ¬ (0 : Int) < (k : Int) := by omega
          have n0d : decide ((0 : Int) < (k : Int)) = false := decide_eq_false n0
          have n0n : ¬ 0 < k := by omega
          clear hkl hk0 HQ3
          go_wp2_with fail
          go_quiet (fail)
          have HB5 := Lib.hid (bTrans HB4.out (below_dN W4 nq))
          have HX5 := Lib.hid (boxN_below HX4.out (below_dN W4 nq))
          have HBX5 := Lib.hid (boxN_below HBX4.out (below_dN W4 nq))
          obtain ⟨U, hU⟩ : ∃ U, W4.drewN nq = U := ⟨_, rfl⟩
          rw [hU] at HB5 HX5 HBX5 ⊢
          clear hU q0 q1 o3
          have q0 : U.cell? ⟨B4, 0, none⟩ = some (.int .u64 p) := HX5.out.cell 0
          have q1 : U.cell? ⟨B4, 1, none⟩ = some (.int .i64 (nn : Int)) := HX5.out.cell 1
          have o0 : U.cell? ⟨B, 0, none⟩ = some v0 := HBX5.out.cell 0
          have o1 : U.cell? ⟨B, 1, none⟩ = some v1 := HBX5.out.cell 1
          have o2 : U.cell? ⟨B, 2, none⟩ = some (.slice ga m gc) := HBX5.out.cell 2
          have o3 : U.cell? ⟨B, 3, none⟩ = some (.slice sa ms sc) := HBX5.out.cell 3
          have o4 : U.cell? ⟨B, 4, none⟩ = some (.slice (some ⟨g, off, none⟩) mr rc) := HBX5.out.cell 4
          have o5 : U.cell? ⟨B, 5, none⟩ = some v5 := HBX5.out.cell 5
          have o6 : U.cell? ⟨B, 6, none⟩ = some v6 := HBX5.out.cell 6
          have hBlu : B < U.heap.size := HBX5.out.lt
          have hB4lu : B4 < U.heap.size := HX5.out.lt
          have HS2 := Lib.hid (show U.cell? ⟨B, 0, none⟩ = some v0 ∧ U.cell? ⟨B, 1, none⟩ = some v1 ∧ U.cell? ⟨B, 2, none⟩ = some (.slice ga m gc) ∧ U.cell? ⟨B, 3, none⟩ = some (.slice sa ms sc) ∧ U.cell? ⟨B, 4, none⟩ = some (.slice (some ⟨g, off, none⟩) mr rc) ∧ U.cell? ⟨B, 5, none⟩ = some v5 ∧ U.cell? ⟨B, 6, none⟩ = some v6 ∧ U.cell? ⟨B4, 0, none⟩ = some (.int .u64 p) ∧ U.cell? ⟨B4, 1, none⟩ = some (.int .i64 (nn : Int)) from ⟨o0, o1, o2, o3, o4, o5, o6, q0, q1⟩)
          have HC1 := Lib.hid (HC1.out U.drew (bTrans HB5.out (below_dN U 1)))
          obtain ⟨ai, hai⟩ : ∃ ai, atF l p rm = ai := ⟨_, rfl⟩
          rw [hai] at HC2
          have HAI := Lib.hid hai
          clear hai
          go_upto_region 9 with fail
          go_region_held3 (fun W => W.cell? ⟨B, 0, none⟩ = some v0 ∧ W.cell? ⟨B, 1, none⟩ = some v1 ∧ W.cell? ⟨B, 2, none⟩ = some (.slice ga m gc) ∧ W.cell? ⟨B, 3, none⟩ = some (.slice sa ms sc) ∧ W.cell? ⟨B, 4, none⟩ = some (.slice (some ⟨g, off, none⟩) mr rc) ∧ W.cell? ⟨B, 5, none⟩ = some v5 ∧ W.cell? ⟨B, 6, none⟩ = some v6 ∧ W.cell? ⟨B4, 0, none⟩ = some (.int .u64 p) ∧ W.cell? ⟨B4, 1, none⟩ = some (.int .i64 (nn : Int)))
            (first | exact HS4.out | exact HS3.out | exact HS2.out | go_keep)
            (first
              | (go_at_call 46; refine HC1.out.mono ?_; rintro e w6 ⟨rfl, hb6⟩; have HB6 := Lib.hid (bTrans (below_dN U 1) hb6); have HS3 := Lib.hid (show w6.cell? ⟨B, 0, none⟩ = some v0 ∧ w6.cell? ⟨B, 1, none⟩ = some v1 ∧ w6.cell? ⟨B, 2, none⟩ = some (.slice ga m gc) ∧ w6.cell? ⟨B, 3, none⟩ = some (.slice sa ms sc) ∧ w6.cell? ⟨B, 4, none⟩ = some (.slice (some ⟨g, off, none⟩) mr rc) ∧ w6.cell? ⟨B, 5, none⟩ = some v5 ∧ w6.cell? ⟨B, 6, none⟩ = some v6 ∧ w6.cell? ⟨B4, 0, none⟩ = some (.int .u64 p) ∧ w6.cell? ⟨B4, 1, none⟩ = some (.int .i64 (nn : Int)) from ⟨cell_below HB6.out HS2.out.1, cell_below HB6.out HS2.out.2.1, cell_below HB6.out HS2.out.2.2.1, cell_below HB6.out HS2.out.2.2.2.1, cell_below HB6.out HS2.out.2.2.2.2.1, cell_below HB6.out HS2.out.2.2.2.2.2.1, cell_below HB6.out HS2.out.2.2.2.2.2.2.1, cell_below HB6.out HS2.out.2.2.2.2.2.2.2.1, cell_below HB6.out HS2.out.2.2.2.2.2.2.2.2⟩); clear hb6)
              | (go_at_call 21; refine (HC2.out w6 (bTrans HB5.out HB6.out)).mono ?_; rintro e w7 ⟨rfl, hb7⟩; have HB7 := Lib.hid (bTrans HB6.out hb7); have HS4 := Lib.hid (show w7.cell? ⟨B, 0, none⟩ = some v0 ∧ w7.cell? ⟨B, 1, none⟩ = some v1 ∧ w7.cell? ⟨B, 2, none⟩ = some (.slice ga m gc) ∧ w7.cell? ⟨B, 3, none⟩ = some (.slice sa ms sc) ∧ w7.cell? ⟨B, 4, none⟩ = some (.slice (some ⟨g, off, none⟩) mr rc) ∧ w7.cell? ⟨B, 5, none⟩ = some v5 ∧ w7.cell? ⟨B, 6, none⟩ = some v6 ∧ w7.cell? ⟨B4, 0, none⟩ = some (.int .u64 p) ∧ w7.cell? ⟨B4, 1, none⟩ = some (.int .i64 (nn : Int)) from ⟨cell_below HB7.out HS2.out.1, cell_below HB7.out HS2.out.2.1, cell_below HB7.out HS2.out.2.2.1, cell_below HB7.out HS2.out.2.2.2.1, cell_below HB7.out HS2.out.2.2.2.2.1, cell_below HB7.out HS2.out.2.2.2.2.2.1, cell_below HB7.out HS2.out.2.2.2.2.2.2.1, cell_below HB7.out HS2.out.2.2.2.2.2.2.2.1, cell_below HB7.out HS2.out.2.2.2.2.2.2.2.2⟩); clear hb7))
          clear o0 o1 o2 o3 o4 o5 o6 q0 q1
          have HB8 := Lib.hid (bTrans HB5.out HB7.out)
          have HBX8 := Lib.hid (boxN_below HBX5.out HB7.out)
          by_cases h0 : 0 ≤ ai
          · obtain ⟨ki, rfl⟩ := Int.eq_ofNat_of_zero_le h0
            obtain ⟨hkil, -⟩ := firstI_hit HAI.out
            obtain ⟨gg, offg, hge, -, -, -, f2, -⟩ := (HG.out.below HB8.out).at_ hkil
            subst hge
            have o2 : w7.cell? ⟨B, 2, none⟩ = some (.slice (some ⟨gg, offg, none⟩) m gc) := HBX8.out.cell 2
            have kb0 : (0 : Int) ≤ (ki : Int) := by omega
            have kb1 : (ki : Int) < (m : Int) := by rw [← HM.out]; omega
            have kb2 : ¬ (ki : Int) < 0 := by omega
            have HFL : Hid (l[ki].flags = 2 ∨ l[ki].flags = 3 → writeB l p rm = true) := Lib.hid (fun h => write_of_at HAI.out hkil h)
            have HFN : Hid (writeB l p rm = true → 0 < rm → l[ki].flags = 2 ∨ l[ki].flags = 3) := Lib.hid (fun h h1 => by
              obtain ⟨j, hj, h2, h3⟩ := at_write HSB.out h1 h
              rw [HAI.out] at h2
              obtain rfl : ki = j := by omega
              exact h3)
            obtain ⟨f, hf⟩ : ∃ f, l[ki].flags = f := ⟨_, rfl⟩
            rw [hf] at f2 HFL HFN
            clear hf hkil
            by_cases hf2 : f = 2 ∨ f = 3
            · have hw := HFL.out hf2
              have hend := writeB_end HSB.out hw
              have HQ5 : Hid (relsB l sy (p + rm) (rl.drop (k + 1)) = r) := Lib.hid (by have := HQ4.out; rwa [hw, Bool.true_and] at this)
              have HAH3 := Lib.hid (HAH2.out nn rfl (by rw [HMS.out]; exact hnn) p0 (by omega))
              clear hw hend
              rcases hf2 with rfl | rfl
              · go_wp2_with fail
                go_roundw
                case rel => exact ⟨k + 1, _, by go_num, by omega, HAH3, HQ5, HB8, HBX8⟩
                case measure => simp [intOf]; omega
              · go_wp2_with fail
                go_roundw
                case rel => exact ⟨k + 1, _, by go_num, by omega, HAH3, HQ5, HB8, HBX8⟩
                case measure => simp [intOf]; omega
            · have hrf : false = r := by
                rw [← HQ4.out]
                symm
                rw [Bool.and_eq_false_iff]
                left
                rw [Bool.eq_false_iff]
                exact fun h => hf2 (HFN.out h hrm0)
              subst hrf
              have hf3 : ¬ f = 2 := fun h => hf2 (Or.inl h)
              have hf4 : ¬ f = 3 := fun h => hf2 (Or.inr h)
              clear hf2
              go_wp2_with fail
              all_goals first
                | (go_ret; exact ⟨rfl, HB8.out⟩)
                | (exfalso
                   (try simp only [bne_iff_ne, ne_eq, bne_eq_false_iff_eq, Bool.not_eq_true', Bool.not_eq_false', beq_iff_eq, beq_eq_false_iff_ne] at *)
                   omega)
          · have hrf : false = r := by
              rw [← HQ4.out]
              symm
              rw [Bool.and_eq_false_iff]
              left
              rw [Bool.eq_false_iff]
              intro h
              obtain ⟨j, hj, h2, h3⟩ := at_write HSB.out hrm0 h
              rw [HAI.out] at h2
              omega
            subst hrf
            have kb2 : ai < 0 := by omega
            go_wp2_with fail
            go_ret
            exact ⟨rfl, HB8.out⟩
        · have n0 : (0 : Int) < (k : Int) := by omega
          have n0n : 0 < k := by omega
          have n0d : decide ((0 : Int) < (k : Int)) = true := decide_eq_true n0
          have nk : IntKind.i64.wrap ((k : Int) - 1) = (k1 : Int) := by rw [IntKind.wrap_i64]; omega
          have nk0 : (0 : Int) ≤ (k1 : Int) := by omega
          have nk1 : (k1 : Int) < (mr : Int) := by omega
          obtain ⟨g', off', hge', -, d0, d1⟩ := (HRL.out.below HB4.out).at_ hk1l
          cases hge'
          rw [hs1] at d1
          have hro := roomZ_or sy (m1 : Int)
          have HC3 := Lib.hid (fun W hW => HROOM.out W hW m1 (by rw [← HMS.out]; exact hm1))
          rw [hs1] at hfz
          obtain ⟨rm1, hrm1⟩ : ∃ rm, roomZ sy (m1 : Int) = rm := ⟨_, rfl⟩
          rw [hrm1] at HC3 hro hfz
          obtain ⟨y0, hy0⟩ : ∃ e, rl[k1].place = e := ⟨_, rfl⟩
          rw [hy0] at d0 hfz a0 a1
          have HFZ := Lib.hid hfz
          have wy : IntKind.u64.wrap (y0 + rm1) = y0 + rm1 := by rw [IntKind.wrap_u64]; omega
          have hrd : 0 ≤ rm1 ∧ rm1 ≤ 64 := by omega
          clear hro
          have hBl : B < W4.heap.size := HBX4.out.lt
          have hB4l : B4 < W4.heap.size := HX4.out.lt
          have hgl := heap_lt_of_cell d0
          have o0 : W4.cell? ⟨B, 0, none⟩ = some v0 := HBX4.out.cell 0
          have o1 : W4.cell? ⟨B, 1, none⟩ = some v1 := HBX4.out.cell 1
          have o2 : W4.cell? ⟨B, 2, none⟩ = some (.slice ga m gc) := HBX4.out.cell 2
          have o4 : W4.cell? ⟨B, 4, none⟩ = some (.slice (some ⟨g, off, none⟩) mr rc) := HBX4.out.cell 4
          have o5 : W4.cell? ⟨B, 5, none⟩ = some v5 := HBX4.out.cell 5
          have o6 : W4.cell? ⟨B, 6, none⟩ = some v6 := HBX4.out.cell 6
          have HS0 := Lib.hid (show W4.cell? ⟨B, 0, none⟩ = some v0 ∧ W4.cell? ⟨B, 1, none⟩ = some v1 ∧ W4.cell? ⟨B, 2, none⟩ = some (.slice ga m gc) ∧ W4.cell? ⟨B, 3, none⟩ = some (.slice sa ms sc) ∧ W4.cell? ⟨B, 4, none⟩ = some (.slice (some ⟨g, off, none⟩) mr rc) ∧ W4.cell? ⟨B, 5, none⟩ = some v5 ∧ W4.cell? ⟨B, 6, none⟩ = some v6 ∧ W4.cell? ⟨B4, 0, none⟩ = some (.int .u64 p) ∧ W4.cell? ⟨g, off + k1 * 2, none⟩ = some (.int .u64 y0) ∧ W4.cell? ⟨g, off + k1 * 2 + 1, none⟩ = some (.int .i64 (m1 : Int)) from ⟨o0, o1, o2, o3, o4, o5, o6, q0, d0, d1⟩)
          have HC3 := Lib.hid (HC3.out W4.drew (bTrans HB4.out (below_dN W4 1)))
          clear hkl hs1 hrm1 hy0 hk1l hfz hk1
          go_upto_region 7 with fail
          go_region_held3 (fun W => W.cell? ⟨B, 0, none⟩ = some v0 ∧ W.cell? ⟨B, 1, none⟩ = some v1 ∧ W.cell? ⟨B, 2, none⟩ = some (.slice ga m gc) ∧ W.cell? ⟨B, 3, none⟩ = some (.slice sa ms sc) ∧ W.cell? ⟨B, 4, none⟩ = some (.slice (some ⟨g, off, none⟩) mr rc) ∧ W.cell? ⟨B, 5, none⟩ = some v5 ∧ W.cell? ⟨B, 6, none⟩ = some v6 ∧ W.cell? ⟨B4, 0, none⟩ = some (.int .u64 p) ∧ W.cell? ⟨g, off + k1 * 2, none⟩ = some (.int .u64 y0) ∧ W.cell? ⟨g, off + k1 * 2 + 1, none⟩ = some (.int .i64 (m1 : Int)))
            (first | exact HS1.out | exact HS0.out | go_keep)
            (first | (go_at_call 46; refine HC3.out.mono ?_; rintro e w5 ⟨rfl, hb'⟩; have HBS := Lib.hid (bTrans (below_dN W4 1) hb'); have HS1 := Lib.hid (show w5.cell? ⟨B, 0, none⟩ = some v0 ∧ w5.cell? ⟨B, 1, none⟩ = some v1 ∧ w5.cell? ⟨B, 2, none⟩ = some (.slice ga m gc) ∧ w5.cell? ⟨B, 3, none⟩ = some (.slice sa ms sc) ∧ w5.cell? ⟨B, 4, none⟩ = some (.slice (some ⟨g, off, none⟩) mr rc) ∧ w5.cell? ⟨B, 5, none⟩ = some v5 ∧ w5.cell? ⟨B, 6, none⟩ = some v6 ∧ w5.cell? ⟨B4, 0, none⟩ = some (.int .u64 p) ∧ w5.cell? ⟨g, off + k1 * 2, none⟩ = some (.int .u64 y0) ∧ w5.cell? ⟨g, off + k1 * 2 + 1, none⟩ = some (.int .i64 (m1 : Int)) from ⟨cell_below HBS.out HS0.out.1, cell_below HBS.out HS0.out.2.1, cell_below HBS.out HS0.out.2.2.1, cell_below HBS.out HS0.out.2.2.2.1, cell_below HBS.out HS0.out.2.2.2.2.1, cell_below HBS.out HS0.out.2.2.2.2.2.1, cell_below HBS.out HS0.out.2.2.2.2.2.2.1, cell_below HBS.out HS0.out.2.2.2.2.2.2.2.1, cell_below HBS.out HS0.out.2.2.2.2.2.2.2.2.1, cell_below HBS.out HS0.out.2.2.2.2.2.2.2.2.2⟩); clear hb'))
          clear o0 o1 o2 o3 o4 o5 o6 q0 q1 d0 d1
          have HB5 := Lib.hid (bTrans HB4.out HBS.out)
          have HX5 := Lib.hid (boxN_below HX4.out HBS.out)
          have HBX5 := Lib.hid (boxN_below HBX4.out HBS.out)
          obtain ⟨U, hU⟩ : ∃ U, U = w5 := ⟨_, rfl⟩
          subst hU
          by_cases hfp : p < y0 + rm1
          · have hrf : false = r := by rw [← HQ3.out, decide_eq_false (by rw [HFZ.out]; omega)]; rfl
            subst hrf
            go_wp2_with fail
            go_ret
            exact ⟨rfl, HB5.out⟩
          · have HQ4 : Hid ((writeB l p rm && relsB l sy (p + rm) (rl.drop (k + 1))) = r) := Lib.hid (by have := HQ3.out; rwa [decide_eq_true (by rw [HFZ.out]; omega), Bool.true_and] at this)
            clear HQ3
            have q0 : U.cell? ⟨B4, 0, none⟩ = some (.int .u64 p) := HX5.out.cell 0
            have q1 : U.cell? ⟨B4, 1, none⟩ = some (.int .i64 (nn : Int)) := HX5.out.cell 1
            have o0 : U.cell? ⟨B, 0, none⟩ = some v0 := HBX5.out.cell 0
            have o1 : U.cell? ⟨B, 1, none⟩ = some v1 := HBX5.out.cell 1
            have o2 : U.cell? ⟨B, 2, none⟩ = some (.slice ga m gc) := HBX5.out.cell 2
            have o3 : U.cell? ⟨B, 3, none⟩ = some (.slice sa ms sc) := HBX5.out.cell 3
            have o4 : U.cell? ⟨B, 4, none⟩ = some (.slice (some ⟨g, off, none⟩) mr rc) := HBX5.out.cell 4
            have o5 : U.cell? ⟨B, 5, none⟩ = some v5 := HBX5.out.cell 5
            have o6 : U.cell? ⟨B, 6, none⟩ = some v6 := HBX5.out.cell 6
            have hBlu : B < U.heap.size := HBX5.out.lt
            have hB4lu : B4 < U.heap.size := HX5.out.lt
            have HS2 := Lib.hid (show U.cell? ⟨B, 0, none⟩ = some v0 ∧ U.cell? ⟨B, 1, none⟩ = some v1 ∧ U.cell? ⟨B, 2, none⟩ = some (.slice ga m gc) ∧ U.cell? ⟨B, 3, none⟩ = some (.slice sa ms sc) ∧ U.cell? ⟨B, 4, none⟩ = some (.slice (some ⟨g, off, none⟩) mr rc) ∧ U.cell? ⟨B, 5, none⟩ = some v5 ∧ U.cell? ⟨B, 6, none⟩ = some v6 ∧ U.cell? ⟨B4, 0, none⟩ = some (.int .u64 p) ∧ U.cell? ⟨B4, 1, none⟩ = some (.int .i64 (nn : Int)) from ⟨o0, o1, o2, o3, o4, o5, o6, q0, q1⟩)
            have HC1 := Lib.hid (HC1.out U.drew (bTrans HB5.out (below_dN U 1)))
            obtain ⟨ai, hai⟩ : ∃ ai, atF l p rm = ai := ⟨_, rfl⟩
            rw [hai] at HC2
            have HAI := Lib.hid hai
            clear hai
            go_upto_region 9 with fail
            go_region_held3 (fun W => W.cell? ⟨B, 0, none⟩ = some v0 ∧ W.cell? ⟨B, 1, none⟩ = some v1 ∧ W.cell? ⟨B, 2, none⟩ = some (.slice ga m gc) ∧ W.cell? ⟨B, 3, none⟩ = some (.slice sa ms sc) ∧ W.cell? ⟨B, 4, none⟩ = some (.slice (some ⟨g, off, none⟩) mr rc) ∧ W.cell? ⟨B, 5, none⟩ = some v5 ∧ W.cell? ⟨B, 6, none⟩ = some v6 ∧ W.cell? ⟨B4, 0, none⟩ = some (.int .u64 p) ∧ W.cell? ⟨B4, 1, none⟩ = some (.int .i64 (nn : Int)))
              (first | exact HS4.out | exact HS3.out | exact HS2.out | go_keep)
              (first
                | (go_at_call 46; refine HC1.out.mono ?_; rintro e w6 ⟨rfl, hb6⟩; have HB6 := Lib.hid (bTrans (below_dN U 1) hb6); have HS3 := Lib.hid (show w6.cell? ⟨B, 0, none⟩ = some v0 ∧ w6.cell? ⟨B, 1, none⟩ = some v1 ∧ w6.cell? ⟨B, 2, none⟩ = some (.slice ga m gc) ∧ w6.cell? ⟨B, 3, none⟩ = some (.slice sa ms sc) ∧ w6.cell? ⟨B, 4, none⟩ = some (.slice (some ⟨g, off, none⟩) mr rc) ∧ w6.cell? ⟨B, 5, none⟩ = some v5 ∧ w6.cell? ⟨B, 6, none⟩ = some v6 ∧ w6.cell? ⟨B4, 0, none⟩ = some (.int .u64 p) ∧ w6.cell? ⟨B4, 1, none⟩ = some (.int .i64 (nn : Int)) from ⟨cell_below HB6.out HS2.out.1, cell_below HB6.out HS2.out.2.1, cell_below HB6.out HS2.out.2.2.1, cell_below HB6.out HS2.out.2.2.2.1, cell_below HB6.out HS2.out.2.2.2.2.1, cell_below HB6.out HS2.out.2.2.2.2.2.1, cell_below HB6.out HS2.out.2.2.2.2.2.2.1, cell_below HB6.out HS2.out.2.2.2.2.2.2.2.1, cell_below HB6.out HS2.out.2.2.2.2.2.2.2.2⟩); clear hb6)
                | (go_at_call 21; refine (HC2.out w6 (bTrans HB5.out HB6.out)).mono ?_; rintro e w7 ⟨rfl, hb7⟩; have HB7 := Lib.hid (bTrans HB6.out hb7); have HS4 := Lib.hid (show w7.cell? ⟨B, 0, none⟩ = some v0 ∧ w7.cell? ⟨B, 1, none⟩ = some v1 ∧ w7.cell? ⟨B, 2, none⟩ = some (.slice ga m gc) ∧ w7.cell? ⟨B, 3, none⟩ = some (.slice sa ms sc) ∧ w7.cell? ⟨B, 4, none⟩ = some (.slice (some ⟨g, off, none⟩) mr rc) ∧ w7.cell? ⟨B, 5, none⟩ = some v5 ∧ w7.cell? ⟨B, 6, none⟩ = some v6 ∧ w7.cell? ⟨B4, 0, none⟩ = some (.int .u64 p) ∧ w7.cell? ⟨B4, 1, none⟩ = some (.int .i64 (nn : Int)) from ⟨cell_below HB7.out HS2.out.1, cell_below HB7.out HS2.out.2.1, cell_below HB7.out HS2.out.2.2.1, cell_below HB7.out HS2.out.2.2.2.1, cell_below HB7.out HS2.out.2.2.2.2.1, cell_below HB7.out HS2.out.2.2.2.2.2.1, cell_below HB7.out HS2.out.2.2.2.2.2.2.1, cell_below HB7.out HS2.out.2.2.2.2.2.2.2.1, cell_below HB7.out HS2.out.2.2.2.2.2.2.2.2⟩); clear hb7))
            clear o0 o1 o2 o3 o4 o5 o6 q0 q1
            have HB8 := Lib.hid (bTrans HB5.out HB7.out)
            have HBX8 := Lib.hid (boxN_below HBX5.out HB7.out)
            by_cases h0 : 0 ≤ ai
            · obtain ⟨ki, rfl⟩ := Int.eq_ofNat_of_zero_le h0
              obtain ⟨hkil, -⟩ := firstI_hit HAI.out
              obtain ⟨gg, offg, hge, -, -, -, f2, -⟩ := (HG.out.below HB8.out).at_ hkil
              subst hge
              have o2 : w7.cell? ⟨B, 2, none⟩ = some (.slice (some ⟨gg, offg, none⟩) m gc) := HBX8.out.cell 2
              have kb0 : (0 : Int) ≤ (ki : Int) := by omega
              have kb1 : (ki : Int) < (m : Int) := by rw [← HM.out]; omega
              have kb2 : ¬ (ki : Int) < 0 := by omega
              have HFL : Hid (l[ki].flags = 2 ∨ l[ki].flags = 3 → writeB l p rm = true) := Lib.hid (fun h => write_of_at HAI.out hkil h)
              have HFN : Hid (writeB l p rm = true → 0 < rm → l[ki].flags = 2 ∨ l[ki].flags = 3) := Lib.hid (fun h h1 => by
                obtain ⟨j, hj, h2, h3⟩ := at_write HSB.out h1 h
                rw [HAI.out] at h2
                obtain rfl : ki = j := by omega
                exact h3)
              obtain ⟨f, hf⟩ : ∃ f, l[ki].flags = f := ⟨_, rfl⟩
              rw [hf] at f2 HFL HFN
              clear hf hkil
              by_cases hf2 : f = 2 ∨ f = 3
              · have hw := HFL.out hf2
                have hend := writeB_end HSB.out hw
                have HQ5 : Hid (relsB l sy (p + rm) (rl.drop (k + 1)) = r) := Lib.hid (by have := HQ4.out; rwa [hw, Bool.true_and] at this)
                have HAH3 := Lib.hid (HAH2.out nn rfl (by rw [HMS.out]; exact hnn) p0 (by omega))
                clear hw hend
                rcases hf2 with rfl | rfl
                · go_wp2_with fail
                  go_roundw
                  case rel => exact ⟨k + 1, _, by go_num, by omega, HAH3, HQ5, HB8, HBX8⟩
                  case measure => simp [intOf]; omega
                · go_wp2_with fail
                  go_roundw
                  case rel => exact ⟨k + 1, _, by go_num, by omega, HAH3, HQ5, HB8, HBX8⟩
                  case measure => simp [intOf]; omega
              · have hrf : false = r := by
                  rw [← HQ4.out]
                  symm
                  rw [Bool.and_eq_false_iff]
                  left
                  rw [Bool.eq_false_iff]
                  exact fun h => hf2 (HFN.out h hrm0)
                subst hrf
                have hf3 : ¬ f = 2 := fun h => hf2 (Or.inl h)
                have hf4 : ¬ f = 3 := fun h => hf2 (Or.inr h)
                clear hf2
                go_wp2_with fail
                all_goals first
                  | (go_ret; exact ⟨rfl, HB8.out⟩)
                  | (exfalso
                     (try simp only [bne_iff_ne, ne_eq, bne_eq_false_iff_eq, Bool.not_eq_true', Bool.not_eq_false', beq_iff_eq, beq_eq_false_iff_ne] at *)
                     omega)
            · have hrf : false = r := by
                rw [← HQ4.out]
                symm
                rw [Bool.and_eq_false_iff]
                left
                rw [Bool.eq_false_iff]
                intro h
                obtain ⟨j, hj, h2, h3⟩ := at_write HSB.out hrm0 h
                rw [HAI.out] at h2
                omega
              subst hrf
              have kb2 : ai < 0 := by omega
              go_wp2_with fail
              go_ret
              exact ⟨rfl, HB8.out⟩
      · have hrf : false = r := by
          rw [← HQ2.out]
          symm
          rw [Bool.and_eq_false_iff]
          left
          rw [Bool.eq_false_iff]
          intro hh
          simp only [Bool.and_eq_true, decide_eq_true_eq] at hh
          exact hC ⟨hh.1, hh.2.1, hh.2.2.1⟩
        subst hrf
        clear hkl
        go_wp2_with fail
        all_goals first
          | (go_ret; exact ⟨rfl, HB4.out⟩)
          | (exfalso
             (try simp only [bne_iff_ne, ne_eq, bne_eq_false_iff_eq, Bool.not_eq_true', Bool.not_eq_false', beq_iff_eq, beq_eq_false_iff_ne] at *)
             omega)
    · have hk2 : k = mr := by omega
      subst hk2
      have hn1 : true = r := by
        rw [← HQ.out, List.drop_eq_nil_of_le (by rw [HMR.out]; omega)]
        rfl
      subst hn1
      go_wp2_with fail
      go_ret
      exact ⟨rfl, HB.out⟩
end Go.Proofs.Ytidnojjhchmmgaa
