/- The contract of segmentsFit. -/
import Derived.Test.YtknldomgmogccaaCeA
import Derived.LoopTactic
import Derived.Outline
import Derived.Deep.QuietTactic
import Derived.BigQuiet
import Derived.Laws.BitsAllLaws
import Derived.OpenShut
import Derived.Lib.SmallJoins
import Derived.Deep.RegionHeld3
import Derived.Deep.RegionWith
import Derived.Laws.NewBlocks
namespace Go.Proofs.Ytknldomgmogccaa
set_option linter.unusedVariables false
set_option linter.unusedSimpArgs false
open Go.Joins Go.ChangeShapes Go.WideShapes Go.ChangeAt Go.RowKit

theorem and2 (f : Int) (h1 : 1 ≤ f) (h7 : f ≤ 7) : (bits .and .i64 f 2 = 0 ∧ (f = 1 ∨ f = 4 ∨ f = 5)) ∨ (bits .and .i64 f 2 ≠ 0 ∧ (f = 2 ∨ f = 3 ∨ f = 6 ∨ f = 7)) := by
  have : f = 1 ∨ f = 2 ∨ f = 3 ∨ f = 4 ∨ f = 5 ∨ f = 6 ∨ f = 7 := by omega
  rcases this with rfl | rfl | rfl | rfl | rfl | rfl | rfl <;> decide
theorem and4 (f : Int) (h1 : 1 ≤ f) (h7 : f ≤ 7) : (bits .and .i64 f 4 = 0 ∧ f ≤ 3) ∨ (bits .and .i64 f 4 ≠ 0 ∧ 4 ≤ f) := by
  have : f = 1 ∨ f = 2 ∨ f = 3 ∨ f = 4 ∨ f = 5 ∨ f = 6 ∨ f = 7 := by omega
  rcases this with rfl | rfl | rfl | rfl | rfl | rfl | rfl <;> decide
set_option maxHeartbeats 4000000 in
theorem segs_any (ga : Option Addr) (m gc : Nat) (l : List Seg) (w : World) (hm : l.length = m) (hg : RdG w ga l) (hl : m < 9223372036854775808) (hb : ∀ s ∈ l, u64B s.place ∧ u64B s.size ∧ s.bytes.length < 9223372036854775808) :
    Calls Try.prog 27 #[.slice ga m gc] w fun e w' => e = .returned (.bool (segsB 0 l)) ∧ Below w.heap.size w w' := by
  obtain ⟨r, hr⟩ : ∃ r, segsB 0 l = r := ⟨_, rfl⟩
  rw [hr]
  have HR := Lib.hid hr
  have HM := Lib.hid hm
  have HG := Lib.hid hg
  have HBD := Lib.hid hb
  clear hr hm hg hb
  go_enter Try.func27, Try.ntmps27
  go_wp2_with fail
  go_loopw [3, 8] (fun fr i wr => ∃ (k : Nat) (fz : Int), i = .int .i64 k ∧ fr = .int .u64 fz ∧ k ≤ m ∧ 0 ≤ fz ∧ fz < 100000 ∧ Hid (segsB fz (l.drop k) = r) ∧ Hid (Below w.heap.size w wr)) (fun _ i _ => m - (intOf i).toNat)
  case atStart => exact ⟨0, 0, rfl, rfl, by omega, by omega, by omega, Lib.hid HR.out, Lib.hid (Below.refl _ _)⟩
  case round =>
    obtain ⟨k, fz, rfl, rfl, hk, f0, f1, HQ, HB⟩ := hrel
    by_cases hlt : k < m
    · have hkl : k < l.length := by rw [HM.out]; exact hlt
      obtain ⟨g, off, hge, -, hc⟩ := (HG.out.below HB.out).at_ hkl
      subst hge
      have hbd := HBD.out _ (List.getElem_mem hkl)
      have hq := HQ.out
      rw [List.drop_eq_getElem_cons hkl] at hq
      obtain ⟨s, hs⟩ : ∃ s, l[k] = s := ⟨_, rfl⟩
      rw [hs] at hc hbd hq
      have hq : (segB fz s && segsB (upP (s.place + s.size)) (l.drop (k + 1))) = r := hq
      obtain ⟨c0, c1, c2, c3⟩ := hc
      obtain ⟨⟨p0, p1⟩, ⟨z0, z1⟩, b1⟩ := hbd
      obtain ⟨e0, he0⟩ : ∃ e, s.place = e := ⟨_, rfl⟩
      obtain ⟨e1, he1⟩ : ∃ e, s.size = e := ⟨_, rfl⟩
      obtain ⟨e2, he2⟩ : ∃ e, s.flags = e := ⟨_, rfl⟩
      obtain ⟨e3, he3⟩ : ∃ e, s.ba = e := ⟨_, rfl⟩
      obtain ⟨e4, he4⟩ : ∃ e, s.bytes.length = e := ⟨_, rfl⟩
      obtain ⟨e5, he5⟩ : ∃ e, s.bc = e := ⟨_, rfl⟩
      rw [he0] at c0 p0 p1 hq
      rw [he1] at c1 z0 z1 hq
      rw [he2] at c2
      rw [he3, he4, he5] at c3
      rw [he4] at b1
      have hsb : segB fz s = (decide (e0 % 256 = 0) && (decide (fz ≤ e0) && (decide (e0 ≤ 16384) && (decide (1 ≤ e1) && (decide (e1 ≤ 2048) && (decide (e0 + e1 ≤ 16384) && (decide ((e4 : Int) ≤ e1) && (decide (1 ≤ e2) && decide (e2 ≤ 5)))))))) ) := by unfold segB; rw [he0, he1, he2, he4]
      rw [hsb] at hq
      obtain ⟨cj, hcj⟩ : ∃ cj, (decide (e0 % 256 = 0) && (decide (fz ≤ e0) && (decide (e0 ≤ 16384) && (decide (1 ≤ e1) && (decide (e1 ≤ 2048) && (decide (e0 + e1 ≤ 16384) && (decide ((e4 : Int) ≤ e1) && (decide (1 ≤ e2) && decide (e2 ≤ 5))))))))) = cj := ⟨_, rfl⟩
      rw [hcj] at hq
      have HCJ := Lib.hid hcj
      have HQ2 := Lib.hid hq
      have HA2 := Lib.hid (show (e2 < 1 ∨ 7 < e2) ∨ ((bits .and .i64 e2 2 = 0 ∧ (e2 = 1 ∨ e2 = 4 ∨ e2 = 5)) ∨ (bits .and .i64 e2 2 ≠ 0 ∧ (e2 = 2 ∨ e2 = 3 ∨ e2 = 6 ∨ e2 = 7))) by
        by_cases hf : 1 ≤ e2 ∧ e2 ≤ 7
        · exact Or.inr (and2 e2 hf.1 hf.2)
        · left; omega)
      have HA4 := Lib.hid (show (e2 < 1 ∨ 7 < e2) ∨ ((bits .and .i64 e2 4 = 0 ∧ e2 ≤ 3) ∨ (bits .and .i64 e2 4 ≠ 0 ∧ 4 ≤ e2)) by
        by_cases hf : 1 ≤ e2 ∧ e2 ≤ 7
        · exact Or.inr (and4 e2 hf.1 hf.2)
        · left; omega)
      have kk0 : (0 : Int) ≤ (k : Int) := by omega
      have kk1 : (k : Int) < (m : Int) := by omega
      have w1 : IntKind.u64.wrap (e4 : Int) = (e4 : Int) := by rw [IntKind.wrap_u64]; omega
      clear hq hsb hcj hkl hs he0 he1 he2 he3 he4 he5 HQ
      go_wp2_with fail
      all_goals first
        | (have hq : cj = true := by
            (try simp only [bne_iff_ne, ne_eq, bne_eq_false_iff_eq] at *)
            have a2 := HA2.out
            have a4 := HA4.out
            rw [← HCJ.out]
            simp only [Bool.and_eq_true, decide_eq_true_eq]
            omega
           have hq2 := HQ2.out
           rw [hq, Bool.true_and] at hq2
           unfold upP at hq2
           refine ⟨⟨k + 1, (e0 + e1 + 256 - 1) / 256 * 256, by go_num, rfl, by omega, by omega, by omega, Lib.hid (by rw [show e0 + e1 + 256 - 1 = e0 + e1 + 255 by omega]; exact hq2), Lib.hid (bAlloc HB.out _)⟩, ?_⟩
           simp [intOf]
           omega)
        | (have hq : cj = false := by
            (try simp only [bne_iff_ne, ne_eq, bne_eq_false_iff_eq] at *)
            have a2 := HA2.out
            have a4 := HA4.out
            rw [Bool.eq_false_iff]
            intro hh
            rw [← HCJ.out] at hh
            simp only [Bool.and_eq_true, decide_eq_true_eq] at hh
            omega
           go_ret
           exact ⟨ret_bool (by rw [← HQ2.out, hq]; rfl), bAlloc HB.out _⟩)
    · have hk2 : k = m := by omega
      subst hk2
      have hn1 : true = r := by
        rw [← HQ.out, List.drop_eq_nil_of_le (by rw [HM.out]; omega)]
        rfl
      subst hn1
      go_wp2_with fail
      go_ret
      exact ⟨rfl, HB.out⟩
end Go.Proofs.Ytknldomgmogccaa
