/- The program's memory: bytes are put: contract. -/
import Derived.Test.YteaididdamihlaaTmG
import Derived.Deep.RegionLaw
namespace Go.Proofs.Yteaididdamihlaa
set_option linter.unusedVariables false
set_option linter.unusedSimpArgs false
open Go.Joins Go.ChangeShapes Go.WideShapes Go.ChangeAt Go.RowKit Go.Deep

/-- a row with its first n elements cut off -/
def cutA (a : Option Addr) (n c : Nat) : Option Addr := if c = n then a else a.map fun x => x.add n
theorem rd_cut {w : World} {a : Option Addr} {m c : Nat} {l : List Nat} (h : Rd w a m (u8s l)) (n : Nat) (hn : n ≤ m) (hc : m ≤ c) : Rd w (cutA a n c) (m - n) (u8s (l.drop n)) := by
  have hl : l.length = m := by rw [← u8s_length]; exact h.1
  refine ⟨by rw [u8s_length, List.length_drop, hl], fun h0 => ?_⟩
  obtain ⟨b, off, e, hb, hq⟩ := h.2 (by omega)
  refine ⟨b, off + n, ?_, hb, fun k hk => ?_⟩
  · unfold cutA
    rw [if_neg (by omega), e]
    simp [Addr.add]
  · rw [Nat.add_assoc, hq (n + k) (by omega)]
    simp [u8s]
theorem rd_take {w : World} {a : Option Addr} {m : Nat} {l : List Nat} (h : Rd w a m (u8s l)) (n : Nat) (hn : n ≤ m) : Rd w a n (u8s (l.take n)) := by
  have hl : l.length = m := by rw [← u8s_length]; exact h.1
  refine ⟨by rw [u8s_length, List.length_take, hl]; omega, fun h0 => ?_⟩
  obtain ⟨b, off, e, hb, hq⟩ := h.2 (by omega)
  refine ⟨b, off, e, hb, fun k hk => ?_⟩
  rw [hq k (by omega)]
  simp [u8s, List.getElem?_take, hk]
theorem run_cutB (w : World) (a : Option Addr) (n m c : Nat) (hn : n ≤ m) (hc : m ≤ c) : (Instr.sliceAt 38 (.slice a m c) (some (.int .i64 (n : Int))) none none).run Try.prog w = .ok (.slice (cutA a n c) (m - n) (c - n)) w := by
  have hu := Try.underlying38
  have ho : (sizeOf 5).run Try.prog w = .ok 1 w := by kernel_rfl
  have he : Try.prog.elem 38 = 5 := by kernel_rfl
  rw [run_sliceAt_slice w 38 _ _ _ _ (by rw [he]; exact hu), run_slice_l w 38 a m c (by rw [he]; exact hu) .i64 (n : Int) (by omega) (by omega), he, ho]
  simp [Result.andThen, sliced, cutA]
theorem run_headB (w : World) (a : Option Addr) (n m c : Nat) (hn : n ≤ m) (hc : m ≤ c) (h0 : 0 < c) : (Instr.sliceAt 38 (.slice a m c) none (some (.int .i64 (n : Int))) none).run Try.prog w = .ok (.slice a n c) w := by
  have hu := Try.underlying38
  have ho : (sizeOf 5).run Try.prog w = .ok 1 w := by kernel_rfl
  have he : Try.prog.elem 38 = 5 := by kernel_rfl
  rw [run_sliceAt_slice w 38 _ _ _ _ (by rw [he]; exact hu), run_slice_h w 38 a m c (by rw [he]; exact hu) .i64 (n : Int) (by omega) (by omega), he, ho]
  simp [Result.andThen, sliced, Addr.add]
set_option maxRecDepth 100000 in
set_option maxHeartbeats 1000000 in
theorem put_any (W : World) (M : Nat) (F : Nat → Prop) (m : Mm) (h : MemAt W M F m) (x n c : Nat) (sa : Option Addr) (l : List Nat) (hx : x < 18446744073709551616) (hln : l.length = n) (hnc : n ≤ c) (hn : n < 9223372036854775808) (hbl : ∀ b ∈ l, b < 256) (hs : Rd W sa n (u8s l)) (hne : ∀ g off, sa = some ⟨g, off, none⟩ → ¬ F g) :
    Calls Try.prog 29 #[.pointer (some ⟨M, 0, none⟩), .int .u64 (x : Int), .slice sa n c] W fun e W' => e = .returned (.int .i64 (putF m x l).2) ∧ MemAt W' M F (putF m x l).1 ∧ KP W.heap.size F W W' := by
  obtain ⟨B, D, pb, h⟩ := h
  have HH := Lib.hid (has_any W M B D pb F m h x n hx hn)
  by_cases hall : allB m x n = true
  · have hp : putF m x l = (wrL m x l, 0) := by unfold putF; rw [hln, Int.toNat_natCast, if_pos hall]
    rw [hp]
    rw [hall] at HH
    have hsm : n = 0 ∨ x + n ≤ 16777216 := by
      rcases Nat.eq_zero_or_pos n with h0 | h0
      · exact Or.inl h0
      · exact Or.inr (allB_small h.ok h0 hall)
    have HALL := Lib.hid hall
    have HOK := Lib.hid h.ok
    have HM0 := Lib.hid h
    have HLN := Lib.hid hln
    have HBL := Lib.hid hbl
    have HS0 := Lib.hid hs
    have HNE0 := Lib.hid hne
    clear hp hall h hln hbl hs hne
    go_enter Try.func29, Try.ntmps29
    go_wp2_with fail
    refine HH.out.mono ?_; rintro e W0 ⟨rfl, rfl⟩
    go_wp2_with fail
    go_loopw [1, 2, 7, 8] (fun av sv _ _ wr => ∃ (k d c' : Nat) (sa' : Option Addr), av = .int .u64 ((x + k : Nat) : Int) ∧ sv = .slice sa' d c' ∧ k + d = n ∧ d ≤ c' ∧ Hid (Rd wr sa' d (u8s (l.drop k))) ∧ Hid (∀ g off, sa' = some ⟨g, off, none⟩ → ¬ F g) ∧ Hid (MemO wr M B D pb F (wrL m x (l.take k))) ∧ Hid (KP W.heap.size F W wr)) (fun av _ _ _ _ => x + n - (intOf av).toNat)
    case atStart => exact ⟨0, n, c, sa, rfl, rfl, by omega, hnc, HS0, HNE0, HM0, Lib.hid (KP.refl _ _ _)⟩
    case round =>
      clear HS0 HNE0 HM0 HH hnc
      obtain ⟨k, d, c, sa, rfl, rfl, hd, hdc, HS, HNE, HM, HK⟩ := hrel
      by_cases hlt : 0 < d
      · obtain ⟨y, hx⟩ : ∃ y, x + k = y := ⟨_, rfl⟩
        obtain ⟨i, hi⟩ : ∃ i, y % 256 = i := ⟨_, rfl⟩
        obtain ⟨r, hr⟩ : ∃ r, i + r = 256 := ⟨256 - i, by omega⟩
        have hin : y / 256 ∈ m.pgs := (allB_iff m x n (by omega)).1 HALL.out (y / 256) (by omega) (by omega)
        have HP := Lib.hid (fun W' (hb : Below wr.heap.size wr W') => pageOf_any W' M B D pb F _ (HM.out.below hb) y (by omega))
        have hpp : pgP pb (wrL m x (l.take k)) (y / 256) = some ⟨pb (y / 256), 0, none⟩ := if_pos (by rw [(wrL_pgs m x _).1]; exact hin)
        rw [hpp] at HP
        rw [hx]
        have kk : (0 : Int) < (d : Int) := by omega
        have e1 : (y : Int) % 256 = (i : Int) := by omega
        have w0 : IntKind.i64.wrap (i : Int) = (i : Int) := IntWalk.i64_in _ (by omega)
        have w2 : IntKind.i64.wrap (256 - (i : Int)) = (r : Int) := by rw [IntKind.wrap_i64]; omega
        rcases Nat.lt_or_ge r d with hle | hle
        · have hcmp : (r : Int) < (d : Int) := by omega
          have hcmp2 : ¬ (d : Int) ≤ (r : Int) := by omega
          have w4 : IntKind.u64.wrap (r : Int) = (r : Int) := by rw [IntKind.wrap_u64]; omega
          have w5 : IntKind.u64.wrap ((y : Int) + (r : Int)) = (y : Int) + (r : Int) := by rw [IntKind.wrap_u64]; omega
          have hhd := fun w => run_headB w sa r d c (by omega) hdc (by omega)
          have hct := fun w => run_cutB w sa r d c (by omega) hdc
          have HW := Lib.hid (fun W' (hb : Below wr.heap.size wr W') => wr_any W' M B D pb F _ (HM.out.below hb) y r c sa ((l.drop k).take r) (by rw [(wrL_pgs m x _).1]; exact hin) (by rw [List.length_take, List.length_drop, HLN.out]; omega) (by omega) (by omega) (fun b hb => HBL.out b (List.mem_of_mem_drop (List.mem_of_mem_take hb))) (rd_take (HS.out.below hb) r (by omega)) HNE.out)
          rw [hi] at HW
          have HS2 := Lib.hid (fun W' (hk : KP wr.heap.size F wr W') => rd_cut (hk.rd HS.out (fun b off h0 e => ⟨by obtain ⟨b', off', e', hl', -⟩ := HS.out.2 h0; rw [e] at e'; cases e'; exact hl', HNE.out b off e⟩)) r (by omega) hdc)
          have HQD : Hid (0 < r ∧ r ≤ d ∧ k + (d - r) + r = n ∧ d - r ≤ c - r) := Lib.hid (by omega)
          have hcl : (d : Int) - (r : Int) = ((d - r : Nat) : Int) := by omega
          have HX := Lib.hid hx
          have HWL : Hid (wrL (wrL m x (l.take k)) y ((l.drop k).take r) = wrL m x (l.take (k + r))) := Lib.hid (by
            rw [List.take_add, wrL_append, List.length_take, HLN.out, show min k n = k by omega, HX.out])
          have HPF := Lib.hid (show F (pb (y / 256)) from HM.out.fp _ (by rw [(wrL_pgs m x _).1]; exact hin))
          have HNE2 : Hid (∀ g off, cutA sa r c = some ⟨g, off, none⟩ → ¬ F g) := Lib.hid (fun g off e => by
            obtain ⟨b0, o0, e0, -⟩ := HS.out.2 hlt
            have h1 := HNE.out b0 o0 e0
            unfold cutA at e
            rw [e0] at e
            have h2 : b0 = g := by
              split at e
              · cases e; rfl
              · simp only [Option.map_some, Option.some.injEq] at e
                unfold Addr.add at e
                simp only at e
                split at e <;> (cases e; rfl)
            rw [← h2]
            exact h1)
          clear hpp hin hi hx hd hr hle hcl
          go_upto_region 6 with fail
          go_region_law (first
            | (go_simp; go_at_call 33; refine (HP.out _ (below_dN wr 1)).mono ?_; rintro e W2 ⟨rfl, rfl⟩; dsimp only)
            | (go_simp; go_at_call 46; refine (HW.out _ (below_dN wr 1)).mono ?_; rintro e W3 ⟨rfl, hm3, hk3⟩; have HM3 := Lib.hid hm3; have HK3 := Lib.hid hk3; clear hm3 hk3; dsimp only))
          all_goals
            have HKD : Hid (KP W.heap.size F W W3) := Lib.hid (HK.out.drew.trans (HK3.out.mono HK.out.size (fun b _ e => by rw [show b = pb (y / 256) from e]; exact HPF.out)))
            have HS3 := Lib.hid (HS2.out W3 ((KP.refl wr.heap.size F wr).drew.trans (HK3.out.mono (Nat.le_refl _) (fun b _ e => by rw [show b = pb (y / 256) from e]; exact HPF.out))))
            have HM4 : Hid (MemO W3 M B D pb F (wrL m x (l.take (k + r)))) := Lib.hid (by have := HM3.out; rwa [HWL.out] at this)
            clear HM3 HS HK HM HW HP HS2
            go_wp2_with fail
            go_quiet (fail)
            go_wp2_with fail
            go_roundw
            case rel => exact ⟨k + r, d - r, c - r, cutA sa r c, by rw [show ((x + (k + r) : Nat) : Int) = (y : Int) + (r : Int) by have := HX.out; omega], by first | rfl | rw [Nat.sub_self], by have := HQD.out; omega, HQD.out.2.2.2, Lib.hid (by have h1 := HS3.out; rw [List.drop_drop] at h1; exact h1.drewN _), HNE2, Lib.hid (HM4.out.below (below_dN _ _)), Lib.hid (HKD.out.below (below_dN _ _) HKD.out.size)⟩
            case measure => have := HQD.out; have := HX.out; simp [intOf]; omega
        · have hcmp : ¬ (r : Int) < (d : Int) := by omega
          have hcmp2 : (d : Int) ≤ (r : Int) := by omega
          have w4 : IntKind.u64.wrap (d : Int) = (d : Int) := by rw [IntKind.wrap_u64]; omega
          have w5 : IntKind.u64.wrap ((y : Int) + (d : Int)) = (y : Int) + (d : Int) := by rw [IntKind.wrap_u64]; omega
          have hhd := fun w => run_headB w sa d d c (by omega) hdc (by omega)
          have hct := fun w => run_cutB w sa d d c (by omega) hdc
          have HW := Lib.hid (fun W' (hb : Below wr.heap.size wr W') => wr_any W' M B D pb F _ (HM.out.below hb) y d c sa ((l.drop k).take d) (by rw [(wrL_pgs m x _).1]; exact hin) (by rw [List.length_take, List.length_drop, HLN.out]; omega) (by omega) (by omega) (fun b hb => HBL.out b (List.mem_of_mem_drop (List.mem_of_mem_take hb))) (rd_take (HS.out.below hb) d (by omega)) HNE.out)
          rw [hi] at HW
          have HS2 := Lib.hid (fun W' (hk : KP wr.heap.size F wr W') => rd_cut (hk.rd HS.out (fun b off h0 e => ⟨by obtain ⟨b', off', e', hl', -⟩ := HS.out.2 h0; rw [e] at e'; cases e'; exact hl', HNE.out b off e⟩)) d (by omega) hdc)
          have HQD : Hid (0 < d ∧ d ≤ d ∧ k + (d - d) + d = n ∧ d - d ≤ c - d) := Lib.hid (by omega)
          have hcl : (d : Int) - (d : Int) = ((d - d : Nat) : Int) := by omega
          have HX := Lib.hid hx
          have HWL : Hid (wrL (wrL m x (l.take k)) y ((l.drop k).take d) = wrL m x (l.take (k + d))) := Lib.hid (by
            rw [List.take_add, wrL_append, List.length_take, HLN.out, show min k n = k by omega, HX.out])
          have HPF := Lib.hid (show F (pb (y / 256)) from HM.out.fp _ (by rw [(wrL_pgs m x _).1]; exact hin))
          have HNE2 : Hid (∀ g off, cutA sa d c = some ⟨g, off, none⟩ → ¬ F g) := Lib.hid (fun g off e => by
            obtain ⟨b0, o0, e0, -⟩ := HS.out.2 hlt
            have h1 := HNE.out b0 o0 e0
            unfold cutA at e
            rw [e0] at e
            have h2 : b0 = g := by
              split at e
              · cases e; rfl
              · simp only [Option.map_some, Option.some.injEq] at e
                unfold Addr.add at e
                simp only at e
                split at e <;> (cases e; rfl)
            rw [← h2]
            exact h1)
          clear hpp hin hi hx hd hr hle hcl
          go_upto_region 6 with fail
          go_region_law (first
            | (go_simp; go_at_call 33; refine (HP.out _ (below_dN wr 1)).mono ?_; rintro e W2 ⟨rfl, rfl⟩; dsimp only)
            | (go_simp; go_at_call 46; refine (HW.out _ (below_dN wr 1)).mono ?_; rintro e W3 ⟨rfl, hm3, hk3⟩; have HM3 := Lib.hid hm3; have HK3 := Lib.hid hk3; clear hm3 hk3; dsimp only))
          all_goals
            have HKD : Hid (KP W.heap.size F W W3) := Lib.hid (HK.out.drew.trans (HK3.out.mono HK.out.size (fun b _ e => by rw [show b = pb (y / 256) from e]; exact HPF.out)))
            have HS3 := Lib.hid (HS2.out W3 ((KP.refl wr.heap.size F wr).drew.trans (HK3.out.mono (Nat.le_refl _) (fun b _ e => by rw [show b = pb (y / 256) from e]; exact HPF.out))))
            have HM4 : Hid (MemO W3 M B D pb F (wrL m x (l.take (k + d)))) := Lib.hid (by have := HM3.out; rwa [HWL.out] at this)
            clear HM3 HS HK HM HW HP HS2
            go_wp2_with fail
            go_quiet (fail)
            go_wp2_with fail
            go_roundw
            case rel => exact ⟨k + d, d - d, c - d, cutA sa d c, by rw [show ((x + (k + d) : Nat) : Int) = (y : Int) + (d : Int) by have := HX.out; omega], by first | rfl | rw [Nat.sub_self], by have := HQD.out; omega, HQD.out.2.2.2, Lib.hid (by have h1 := HS3.out; rw [List.drop_drop] at h1; exact h1.drewN _), HNE2, Lib.hid (HM4.out.below (below_dN _ _)), Lib.hid (HKD.out.below (below_dN _ _) HKD.out.size)⟩
            case measure => have := HQD.out; have := HX.out; simp [intOf]; omega
      · obtain rfl : d = 0 := by omega
        obtain rfl : k = n := by omega
        have hM := HM.out
        rw [List.take_of_length_le (by rw [HLN.out]; exact Nat.le_refl _)] at hM
        have HM2 := Lib.hid hM.at_
        clear hM
        go_wp2_with fail
        go_ret
        exact ⟨rfl, HM2.out, HK.out⟩
  · have hp : putF m x l = (m, 30) := by unfold putF; rw [hln, Int.toNat_natCast, if_neg hall]
    rw [hp]
    rw [Bool.eq_false_iff.2 hall] at HH
    have HM0 := Lib.hid h.at_
    clear hp hall h hln hbl hs hne
    go_enter Try.func29, Try.ntmps29
    go_wp2_with fail
    refine HH.out.mono ?_; rintro e W0 ⟨rfl, rfl⟩
    go_wp2_with fail
    go_ret
    exact ⟨rfl, HM0.out, KP.refl _ _ _⟩
end Go.Proofs.Yteaididdamihlaa
