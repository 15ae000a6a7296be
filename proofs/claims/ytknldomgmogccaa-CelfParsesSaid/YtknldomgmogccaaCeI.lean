/- Contracts of writable and of relocsFit. -/
import Derived.Test.YtknldomgmogccaaCeH
namespace Go.Proofs.Ytknldomgmogccaa
set_option linter.unusedVariables false
set_option linter.unusedSimpArgs false
open Go.Joins Go.ChangeShapes Go.WideShapes Go.ChangeAt Go.RowKit

set_option maxHeartbeats 1000000 in
theorem wlam_any (B B' : Nat) (s : Seg) (x n : Int) (W : World) (h0 : W.cell? ⟨B, 0, none⟩ = some (.int .u64 x)) (h1 : W.cell? ⟨B', 0, none⟩ = some (.int .u64 n)) (hf : 1 ≤ s.flags ∧ s.flags ≤ 5) (hp : u64B s.place) (hz : u64B s.size) (hx : u64B x) (hn : u64B n) :
    Calls Try.prog 71 #[.agg #[.int .u64 s.place, .int .u64 s.size, .int .i64 s.flags, .slice s.ba s.bytes.length s.bc], .pointer (some ⟨B, 0, none⟩), .pointer (some ⟨B', 0, none⟩)] W fun e W' => e = .returned (.bool (decide (s.flags = 2 ∨ s.flags = 3) && hasB s x n)) ∧ Below W.heap.size W W' := by
  have HH := Lib.hid (fun W => has_any s.place s.size s.flags x n s.ba s.bytes.length s.bc s W ⟨rfl, rfl⟩ hp hz hx hn)
  have ha := and2 s.flags hf.1 (by omega)
  have hBl : B < W.heap.size := heap_lt_of_cell h0
  have hBl' : B' < W.heap.size := heap_lt_of_cell h1
  obtain ⟨q, hq⟩ : ∃ q, hasB s x n = q := ⟨_, rfl⟩
  rw [hq] at HH ⊢
  clear hq hp hz hx hn
  obtain ⟨e0, h⟩ : ∃ e, s.place = e := ⟨_, rfl⟩
  rw [h] at HH ⊢
  clear h
  obtain ⟨e1, h⟩ : ∃ e, s.size = e := ⟨_, rfl⟩
  rw [h] at HH ⊢
  clear h
  obtain ⟨f, h⟩ : ∃ e, s.flags = e := ⟨_, rfl⟩
  rw [h] at HH ha hf ⊢
  clear h
  obtain ⟨e3, h⟩ : ∃ e, s.ba = e := ⟨_, rfl⟩
  rw [h] at HH ⊢
  clear h
  obtain ⟨e4, h⟩ : ∃ e, s.bytes.length = e := ⟨_, rfl⟩
  rw [h] at HH ⊢
  clear h
  obtain ⟨e5, h⟩ : ∃ e, s.bc = e := ⟨_, rfl⟩
  rw [h] at HH ⊢
  clear h
  have d0 : (W.alloc (.cells #[.int .u64 e0, .int .u64 e1, .int .i64 f, .slice e3 e4 e5] 39)).cell? ⟨B, 0, none⟩ = some (.int .u64 x) := ((bAlloc (Below.refl W.heap.size W) _).cell (p := ⟨B, 0, none⟩) hBl).trans h0
  have d1 : (W.alloc (.cells #[.int .u64 e0, .int .u64 e1, .int .i64 f, .slice e3 e4 e5] 39)).cell? ⟨B', 0, none⟩ = some (.int .u64 n) := ((bAlloc (Below.refl W.heap.size W) _).cell (p := ⟨B', 0, none⟩) hBl').trans h1
  rcases ha with ⟨hb2, hf2⟩ | ⟨hb2, hf2⟩
  · have hd : decide (f = 2 ∨ f = 3) = false := decide_eq_false (by omega)
    rw [hd]
    go_enter Try.func71, Try.ntmps71
    go_wp2_with fail
    go_ret
    exact ⟨rfl, bAlloc (Below.refl _ _) _⟩
  · have hd : decide (f = 2 ∨ f = 3) = true := decide_eq_true (by omega)
    rw [hd]
    go_enter Try.func71, Try.ntmps71
    go_wp2_with fail
    refine (HH.out _).mono ?_; rintro e w' ⟨rfl, hb'⟩
    have HB' := Lib.hid (bTrans (bAlloc (Below.refl _ _) _) hb')
    clear hb'
    go_wp2_with fail
    go_ret
    exact ⟨ret_bool (by rw [show (bits .and .i64 f 2 != 0) = true from bne_iff_ne.2 hb2]), HB'.out⟩
set_option maxHeartbeats 1000000 in
theorem writable_any (v0 v1 v3 v4 v5 v6 : Value) (ga : Option Addr) (m gc : Nat) (l : List Seg) (x n : Int) (w : World) (hm : l.length = m) (hg : RdG w ga l) (hl : m < 9223372036854775808) (hsb : segsB 0 l = true) (hb : ∀ s ∈ l, u64B s.place ∧ u64B s.size) (hx : u64B x) (hn : u64B n) :
    Calls Try.prog 58 #[.agg #[v0, v1, .slice ga m gc, v3, v4, v5, v6], .int .u64 x, .int .u64 n] w fun e w' => e = .returned (.bool (writeB l x n)) ∧ Below w.heap.size w w' := by
  have hin := segsB_in hsb
  obtain ⟨w3, hw3⟩ : ∃ w3, ((w.alloc (.cells #[v0, v1, .slice ga m gc, v3, v4, v5, v6] 30)).alloc (.cells #[.int .u64 x] 37)).alloc (.cells #[.int .u64 n] 37) = w3 := ⟨_, rfl⟩
  have hb3 : Below w.heap.size w w3 := by rw [← hw3]; exact bAlloc (bAlloc (bAlloc (Below.refl _ _) _) _) _
  have q1 : w3.cell? ⟨w.heap.size + 1, 0, none⟩ = some (.int .u64 x) := by
    rw [← hw3]
    have := (bAlloc (Below.refl ((w.alloc (.cells #[v0, v1, .slice ga m gc, v3, v4, v5, v6] 30)).alloc (.cells #[.int .u64 x] 37)).heap.size _) (.cells #[.int .u64 n] 37)).cell (p := ⟨w.heap.size + 1, 0, none⟩) (by rw [size_alloc, size_alloc]; show w.heap.size + 1 < _; omega)
    refine this.trans ?_
    exact cell_of_row _ _ 0 _ _ (0, 0) (by have h := heap_alloc_new (w.alloc (.cells #[v0, v1, .slice ga m gc, v3, v4, v5, v6] 30)) (.cells #[.int .u64 x] 37); rw [size_alloc] at h; exact h)
  have q2 : w3.cell? ⟨w.heap.size + 2, 0, none⟩ = some (.int .u64 n) := by
    rw [← hw3]
    exact cell_of_row _ _ 0 _ _ (0, 0) (by have h := heap_alloc_new ((w.alloc (.cells #[v0, v1, .slice ga m gc, v3, v4, v5, v6] 30)).alloc (.cells #[.int .u64 x] 37)) (.cells #[.int .u64 n] 37); rw [size_alloc, size_alloc] at h; exact h)
  have hz3 : w3.heap.size = w.heap.size + 3 := by rw [← hw3, size_alloc, size_alloc, size_alloc]
  have HC := Lib.hid (contSeg (w.heap.size + 1) (w.heap.size + 2) ga m gc l (fun s => decide (s.flags = 2 ∨ s.flags = 3) && hasB s x n) w3 hm (hg.below hb3) hl (fun W hW s hs => by
    have h1 := hin s hs
    have h2 := hb s hs
    exact wlam_any (w.heap.size + 1) (w.heap.size + 2) s x n W ((hW.cell (p := ⟨w.heap.size + 1, 0, none⟩) (by rw [hz3]; show w.heap.size + 1 < _; omega)).trans q1) ((hW.cell (p := ⟨w.heap.size + 2, 0, none⟩) (by rw [hz3]; show w.heap.size + 2 < _; omega)).trans q2) ⟨h1.2.2.1, h1.2.2.2⟩ h2.1 h2.2 hx hn))
  have HB3 := Lib.hid hb3
  unfold writeB
  obtain ⟨q, hq⟩ : ∃ q, (l.any fun s => decide (s.flags = 2 ∨ s.flags = 3) && hasB s x n) = q := ⟨_, rfl⟩
  rw [hq] at HC ⊢
  have HW3 := Lib.hid hw3
  clear hm hg hl hsb hb hx hn hin hw3 hb3 q1 q2 hz3 hq
  go_enter Try.func58, Try.ntmps58
  go_wp2_with fail
  rw [HW3.out]
  refine HC.out.mono ?_; rintro e w' ⟨rfl, hb'⟩
  have HB' := Lib.hid (bTrans HB3.out hb')
  clear hb'
  go_wp2_with fail
  go_ret
  exact ⟨rfl, HB'.out⟩
theorem writeB_end {l : List Seg} {x n : Int} (hsb : segsB 0 l = true) (h : writeB l x n = true) : x + n ≤ 16384 := by
  obtain ⟨s, hs, hp⟩ := List.any_eq_true.1 h
  have h1 := segsB_in hsb s hs
  simp only [Bool.and_eq_true, hasB, decide_eq_true_eq] at hp
  omega
set_option maxHeartbeats 4000000 in
theorem relocs_any (v0 v1 v5 v6 : Value) (ga sa ra : Option Addr) (m gc ms sc mr rc : Nat) (l : List Seg) (sy : List Sym) (rl : List Rel) (w : World) (hm : l.length = m) (hms : sy.length = ms) (hmr : rl.length = mr) (hg : RdG w ga l) (hs : RdS w sa sy) (hr : RdR w ra rl)
    (hl : m < 9223372036854775808) (hls : ms < 9223372036854775808) (hlr : mr < 9223372036854775808) (hsb : segsB 0 l = true) (hb : ∀ s ∈ l, u64B s.place ∧ u64B s.size) (hbr : ∀ x ∈ rl, u64B x.place) :
    Calls Try.prog 31 #[.agg #[v0, v1, .slice ga m gc, .slice sa ms sc, .slice ra mr rc, v5, v6]] w fun e w' => e = .returned (.bool (relsB l sy 0 rl)) ∧ Below w.heap.size w w' := by
  obtain ⟨r, hrr⟩ : ∃ r, relsB l sy 0 rl = r := ⟨_, rfl⟩
  rw [hrr]
  have HW := Lib.hid (fun W (hW : Below w.heap.size w W) x n (hx : u64B x) (hn : u64B n) => writable_any v0 v1 (.slice sa ms sc) (.slice ra mr rc) v5 v6 ga m gc l x n W hm (hg.below hW) hl hsb hb hx hn)
  have HSB := Lib.hid hsb
  have HR := Lib.hid hrr
  have HM := Lib.hid hmr
  have HMS := Lib.hid hms
  have HG := Lib.hid hr
  have HS := Lib.hid hs
  have HBR := Lib.hid hbr
  clear hrr hm hms hmr hg hs hr hl hsb hb hbr
  go_enter Try.func31, Try.ntmps31
  go_wp2_with fail
  obtain ⟨W1, hW1⟩ : ∃ W1, w.alloc (.cells #[v0, v1, .slice ga m gc, .slice sa ms sc, .slice ra mr rc, v5, v6] 30) = W1 := ⟨_, rfl⟩
  have HB1 := Lib.hid (show Below w.heap.size w W1 by rw [← hW1]; exact bAlloc (Below.refl _ _) _)
  have HX1 := Lib.hid (show ∀ j, W1.cell? ⟨w.heap.size, j, none⟩ = #[v0, v1, .slice ga m gc, .slice sa ms sc, .slice ra mr rc, v5, v6][j]? by intro j; rw [← hW1]; exact cell_of_row _ _ j _ _ (0, 0) (heap_alloc_new w _))
  have hz1 : W1.heap.size = w.heap.size + 1 := by rw [← hW1, size_alloc]
  rw [hW1]
  clear hW1
  go_loopw [3, 10] (fun fr i wr => ∃ (k : Nat) (fz : Int), i = .int .i64 k ∧ fr = .int .u64 fz ∧ k ≤ mr ∧ Hid (relsB l sy fz (rl.drop k) = r) ∧ Hid (Below W1.heap.size W1 wr)) (fun _ i _ => mr - (intOf i).toNat)
  case atStart => exact ⟨0, 0, rfl, rfl, by omega, Lib.hid HR.out, Lib.hid (Below.refl _ _)⟩
  case round =>
    obtain ⟨k, fz, rfl, rfl, hk, HQ, HB⟩ := hrel
    have HBW := Lib.hid (bTrans HB1.out HB.out)
    by_cases hlt : k < mr
    · have hkl : k < rl.length := by rw [HM.out]; exact hlt
      obtain ⟨g, off, hge, -, c0, c1⟩ := (HG.out.below HBW.out).at_ hkl
      subst hge
      have hbd := HBR.out _ (List.getElem_mem hkl)
      have hq := HQ.out
      rw [List.drop_eq_getElem_cons hkl] at hq
      obtain ⟨x, hx⟩ : ∃ x, rl[k] = x := ⟨_, rfl⟩
      rw [hx] at c0 c1 hbd hq
      have hq : (relB l sy fz x && relsB l sy (x.place + roomZ sy x.sym) (rl.drop (k + 1))) = r := hq
      obtain ⟨p, y⟩ := x
      simp only [] at c0 c1 hbd hq
      unfold relB at hq
      simp only [] at hq
      rw [HMS.out] at hq
      have HQ2 := Lib.hid hq
      obtain ⟨p0, p1⟩ := hbd
      have kk0 : (0 : Int) ≤ (k : Int) := by omega
      have kk1 : (k : Int) < (mr : Int) := by omega
      have HBA := Lib.hid (bTrans HBW.out (bAlloc (Below.refl wr.heap.size wr) (.cells #[.int .u64 p, .int .i64 y] 44)))
      have hlw : w.heap.size < wr.heap.size := by have := HB.out.size; omega
      have hbb : ∀ j, wr.cell? ⟨w.heap.size, j, none⟩ = #[v0, v1, .slice ga m gc, .slice sa ms sc, .slice (some ⟨g, off, none⟩) mr rc, v5, v6][j]? := fun j => (HB.out.cell (p := ⟨w.heap.size, j, none⟩) (by rw [hz1]; show w.heap.size < _; omega)).trans (HX1.out j)
      have d0 : (wr.alloc (.cells #[.int .u64 p, .int .i64 y] 44)).cell? ⟨w.heap.size, 0, none⟩ = some v0 := ((bAlloc (Below.refl wr.heap.size wr) _).cell (p := ⟨w.heap.size, 0, none⟩) hlw).trans (hbb 0)
      have d1 : (wr.alloc (.cells #[.int .u64 p, .int .i64 y] 44)).cell? ⟨w.heap.size, 1, none⟩ = some v1 := ((bAlloc (Below.refl wr.heap.size wr) _).cell (p := ⟨w.heap.size, 1, none⟩) hlw).trans (hbb 1)
      have d2 : (wr.alloc (.cells #[.int .u64 p, .int .i64 y] 44)).cell? ⟨w.heap.size, 2, none⟩ = some (.slice ga m gc) := ((bAlloc (Below.refl wr.heap.size wr) _).cell (p := ⟨w.heap.size, 2, none⟩) hlw).trans (hbb 2)
      have d3 : (wr.alloc (.cells #[.int .u64 p, .int .i64 y] 44)).cell? ⟨w.heap.size, 3, none⟩ = some (.slice sa ms sc) := ((bAlloc (Below.refl wr.heap.size wr) _).cell (p := ⟨w.heap.size, 3, none⟩) hlw).trans (hbb 3)
      have d4 : (wr.alloc (.cells #[.int .u64 p, .int .i64 y] 44)).cell? ⟨w.heap.size, 4, none⟩ = some (.slice (some ⟨g, off, none⟩) mr rc) := ((bAlloc (Below.refl wr.heap.size wr) _).cell (p := ⟨w.heap.size, 4, none⟩) hlw).trans (hbb 4)
      have d5 : (wr.alloc (.cells #[.int .u64 p, .int .i64 y] 44)).cell? ⟨w.heap.size, 5, none⟩ = some v5 := ((bAlloc (Below.refl wr.heap.size wr) _).cell (p := ⟨w.heap.size, 5, none⟩) hlw).trans (hbb 5)
      have d6 : (wr.alloc (.cells #[.int .u64 p, .int .i64 y] 44)).cell? ⟨w.heap.size, 6, none⟩ = some v6 := ((bAlloc (Below.refl wr.heap.size wr) _).cell (p := ⟨w.heap.size, 6, none⟩) hlw).trans (hbb 6)
      clear hkl hx hq HQ hbb
      by_cases hc : (p % 32 = 0 ∧ 0 ≤ y) ∧ y < (ms : Int)
      · obtain ⟨⟨h1, h2⟩, h3⟩ := hc
        obtain ⟨n, rfl⟩ := Int.eq_ofNat_of_zero_le h2
        have hnl : n < sy.length := by rw [HMS.out]; omega
        obtain ⟨gs, offs, hse, -, -, -, -, -, e4, -, -, -⟩ := (HS.out.below HBA.out).at_ hnl
        subst hse
        have hkd : kindAt sy (n : Int) = sy[n].kind := by unfold kindAt; rw [Int.toNat_natCast, List.getElem?_eq_getElem hnl]
        obtain ⟨kd, he⟩ : ∃ kd, sy[n].kind = kd := ⟨_, rfl⟩
        rw [he] at e4 hkd
        have HKD := Lib.hid hkd
        clear hnl he hkd
        by_cases hk1 : kd = 1
        · have hrm : roomZ sy (n : Int) = 64 := by unfold roomZ; rw [HKD.out, if_pos hk1]
          have hq := HQ2.out
          rw [hrm, decide_eq_true h1, decide_eq_true h2, decide_eq_true h3, Bool.true_and, Bool.true_and, Bool.true_and] at hq
          by_cases h4 : fz ≤ p
          · rw [decide_eq_true h4, Bool.true_and] at hq
            have HWR := HW.out _ HBA.out p 64 ⟨p0, p1⟩ ⟨by decide, by decide⟩
            have hend : writeB l p 64 = true → p + 64 ≤ 16384 := writeB_end HSB.out
            obtain ⟨q, hqq⟩ : ∃ q, writeB l p 64 = q := ⟨_, rfl⟩
            rw [hqq] at HWR hq hend
            have HWR := Lib.hid HWR
            have HQ3 := Lib.hid hq
            clear hq hqq hrm HQ2
            cases q with
            | true =>
              have hp2 := hend rfl
              have hw : IntKind.u64.wrap (p + 64) = p + 64 := by rw [IntKind.wrap_u64]; omega
              have HQ4 : Hid (relsB l sy (p + 64) (rl.drop (k + 1)) = r) := Lib.hid HQ3.out
              clear hend
              go_wp2_with fail
              refine HWR.out.mono ?_; rintro e w' ⟨rfl, hb'⟩
              have b0 : w'.cell? ⟨wr.heap.size, 0, none⟩ = some (.int .u64 p) := box_cell hb' 0 rfl
              have HBF := Lib.hid (bTrans HB.out (bTrans (bAlloc (Below.refl wr.heap.size wr) _) hb'))
              clear hb'
              go_wp2_with fail
              go_roundw
              case rel => exact ⟨k + 1, p + 64, by go_num, rfl, by omega, HQ4, HBF⟩
              case measure => simp [intOf]; omega
            | false =>
              have hrf : false = r := HQ3.out
              subst hrf
              clear hend
              go_wp2_with fail
              refine HWR.out.mono ?_; rintro e w' ⟨rfl, hb'⟩
              have HBF := Lib.hid (bTrans HBA.out hb')
              clear hb'
              go_wp2_with fail
              go_ret
              exact ⟨rfl, HBF.out⟩
          · rw [decide_eq_false h4] at hq
            have hrf : false = r := hq
            subst hrf
            clear hq hrm HQ2
            go_wp2_with fail
            go_ret
            exact ⟨rfl, HBA.out⟩
        · have hrm : roomZ sy (n : Int) = 32 := by unfold roomZ; rw [HKD.out, if_neg hk1]
          have hq := HQ2.out
          rw [hrm, decide_eq_true h1, decide_eq_true h2, decide_eq_true h3, Bool.true_and, Bool.true_and, Bool.true_and] at hq
          by_cases h4 : fz ≤ p
          · rw [decide_eq_true h4, Bool.true_and] at hq
            have HWR := HW.out _ HBA.out p 32 ⟨p0, p1⟩ ⟨by decide, by decide⟩
            have hend : writeB l p 32 = true → p + 32 ≤ 16384 := writeB_end HSB.out
            obtain ⟨q, hqq⟩ : ∃ q, writeB l p 32 = q := ⟨_, rfl⟩
            rw [hqq] at HWR hq hend
            have HWR := Lib.hid HWR
            have HQ3 := Lib.hid hq
            clear hq hqq hrm HQ2
            cases q with
            | true =>
              have hp2 := hend rfl
              have hw : IntKind.u64.wrap (p + 32) = p + 32 := by rw [IntKind.wrap_u64]; omega
              have HQ4 : Hid (relsB l sy (p + 32) (rl.drop (k + 1)) = r) := Lib.hid HQ3.out
              clear hend
              go_wp2_with fail
              refine HWR.out.mono ?_; rintro e w' ⟨rfl, hb'⟩
              have b0 : w'.cell? ⟨wr.heap.size, 0, none⟩ = some (.int .u64 p) := box_cell hb' 0 rfl
              have HBF := Lib.hid (bTrans HB.out (bTrans (bAlloc (Below.refl wr.heap.size wr) _) hb'))
              clear hb'
              go_wp2_with fail
              go_roundw
              case rel => exact ⟨k + 1, p + 32, by go_num, rfl, by omega, HQ4, HBF⟩
              case measure => simp [intOf]; omega
            | false =>
              have hrf : false = r := HQ3.out
              subst hrf
              clear hend
              go_wp2_with fail
              refine HWR.out.mono ?_; rintro e w' ⟨rfl, hb'⟩
              have HBF := Lib.hid (bTrans HBA.out hb')
              clear hb'
              go_wp2_with fail
              go_ret
              exact ⟨rfl, HBF.out⟩
          · rw [decide_eq_false h4] at hq
            have hrf : false = r := hq
            subst hrf
            clear hq hrm HQ2
            go_wp2_with fail
            go_ret
            exact ⟨rfl, HBA.out⟩
      · have hq := HQ2.out
        have hcf : (decide (p % 32 = 0) && (decide (0 ≤ y) && (decide (y < (ms : Int)) && (decide (fz ≤ p) && writeB l p (roomZ sy y))))) = false := by
          rw [Bool.eq_false_iff]; intro hh
          simp only [Bool.and_eq_true, decide_eq_true_eq] at hh
          exact hc ⟨⟨hh.1, hh.2.1⟩, hh.2.2.1⟩
        rw [hcf] at hq
        have hrf : false = r := hq
        subst hrf
        clear hq hcf
        go_wp2_with fail
        all_goals first
          | (exfalso; omega)
          | (go_ret; exact ⟨rfl, HBA.out⟩)
    · have hk2 : k = mr := by omega
      subst hk2
      have hn1 : true = r := by
        rw [← HQ.out, List.drop_eq_nil_of_le (by rw [HM.out]; omega)]
        rfl
      subst hn1
      go_wp2_with fail
      go_ret
      exact ⟨rfl, HBW.out⟩
end Go.Proofs.Ytknldomgmogccaa
