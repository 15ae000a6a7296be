/- Contracts of slices.Contains, and of namesFit. -/
import Derived.Test.YtknldomgmogccaaCeC
import Derived.Laws.Strings
namespace Go.Proofs.Ytknldomgmogccaa
set_option linter.unusedVariables false
set_option linter.unusedSimpArgs false
open Go.Joins Go.ChangeShapes Go.WideShapes Go.ChangeAt Go.RowKit

theorem index_any (a : Option Addr) (m c : Nat) (l : List (List UInt8)) (s : List UInt8) (w : World) (hm : l.length = m) (hg : Rd w a m (txs l)) (hl : m < 9223372036854775808) :
    Calls Try.prog 68 #[.slice a m c, .string ⟨s.toArray⟩] w fun e w' => e = .returned (.int .i64 (firstI (fun x => s == x) l)) ∧ w = w' := by
  obtain ⟨r, hr⟩ : ∃ r, firstI (fun x => s == x) l = r := ⟨_, rfl⟩
  rw [hr]
  have HR := Lib.hid hr
  have HM := Lib.hid hm
  have HG := Lib.hid hg
  clear hr hm hg
  go_enter Try.func68, Try.ntmps68
  go_wp2_with fail
  go_loop [8] (fun i => ∃ k : Nat, i = .int .i64 k ∧ k ≤ m ∧ Hid (∀ j (h : j < l.length), j < k → (s == l[j]) = false)) (fun i => m - (intOf i).toNat)
  case atStart => exact ⟨0, rfl, by omega, Lib.hid (fun j h h0 => absurd h0 (by omega))⟩
  case round =>
    obtain ⟨k, rfl, hk, HQ⟩ := hrel
    by_cases hlt : k < m
    · have hkl : k < l.length := by rw [HM.out]; exact hlt
      obtain ⟨g, off, hge, -, hc⟩ := HG.out.at_ hlt
      subst hge
      rw [txs_get l k hkl] at hc
      obtain ⟨y, hy⟩ : ∃ y, l[k] = y := ⟨_, rfl⟩
      have hst : (s == y) = false → ∀ j (h : j < l.length), j < k + 1 → (s == l[j]) = false := fun h j hj hj2 => by
        by_cases e : j = k
        · subst e; rw [hy]; exact h
        · exact HQ.out j hj (by omega)
      have hhit : (s == y) = true → (k : Int) = r := fun h => by
        rw [← HR.out]
        exact (firstI_some (p := fun x => s == x) hkl (by show (s == l[k]) = true; rw [hy]; exact h) (fun j hj => HQ.out j (by omega) hj)).symm
      rw [hy] at hc
      have HST := Lib.hid hst
      have HHI := Lib.hid hhit
      have kk0 : (0 : Int) ≤ (k : Int) := by omega
      have kk1 : (k : Int) < (m : Int) := by omega
      clear hst hhit hkl hy
      by_cases he : s = y
      · have hkr := HHI.out (by rw [he]; simp)
        subst hkr
        subst he
        go_wp2_with fail
        go_ret
        exact ⟨rfl, rfl⟩
      · have hse : (s == y) = false := by simp [he]
        have HN1 := Lib.hid (HST.out hse)
        go_wp2_with fail
        go_round
        case rel => exact ⟨k + 1, by go_num, by omega, HN1⟩
        case measure => simp [intOf]; omega
    · have hk2 : k = m := by omega
      subst hk2
      have hn1 : (-1 : Int) = r := by
        rw [← HR.out]
        exact (firstI_none (fun j h => HQ.out j h (by rw [HM.out] at h; exact h))).symm
      subst hn1
      go_wp2_with fail
      go_ret
      exact ⟨rfl, rfl⟩
theorem contains_any (a : Option Addr) (m c : Nat) (l : List (List UInt8)) (s : List UInt8) (w : World) (hm : l.length = m) (hg : Rd w a m (txs l)) (hl : m < 9223372036854775808) :
    Calls Try.prog 55 #[.slice a m c, .string ⟨s.toArray⟩] w fun e w' => e = .returned (.bool (l.contains s)) ∧ w = w' := by
  have HI := Lib.hid (index_any a m c l s w hm hg hl)
  have hf := firstI_any (fun x => s == x) l
  have hc : l.any (fun x => s == x) = l.contains s := by rw [List.contains_eq_any_beq]
  rw [hc] at hf
  obtain ⟨q, hq⟩ : ∃ q, firstI (fun x => s == x) l = q := ⟨_, rfl⟩
  rw [hq] at HI hf
  rw [← hf]
  clear hm hg hc hf hq
  go_enter Try.func55, Try.ntmps55
  go_wp2_with fail
  refine HI.out.mono ?_; rintro e w' ⟨rfl, rfl⟩
  go_wp2_with fail
  go_ret
  exact ⟨rfl, rfl⟩
theorem needsB_step (name : List UInt8) (l : List (List UInt8)) (k : Nat) (h : k < l.length) : needsB name l k = ((nameB l[k] && (l[k] != name && !(l.take k).contains l[k])) && needsB name l (k + 1)) := by
  unfold needsB
  obtain ⟨d, hd⟩ : ∃ d, l.length - k = d + 1 := ⟨l.length - k - 1, by omega⟩
  rw [hd, show l.length - (k + 1) = d by omega, List.range_succ_eq_map, List.all_cons, List.all_map]
  simp only [Nat.add_zero, List.getElem?_eq_getElem h]
  congr 1
  apply congrArg
  funext i
  simp only [Function.comp, Nat.succ_eq_add_one, show k + (i + 1) = k + 1 + i by omega]
theorem needsB_end (name : List UInt8) (l : List (List UInt8)) (k : Nat) (h : l.length ≤ k) : needsB name l k = true := by
  unfold needsB
  rw [show l.length - k = 0 by omega]
  rfl
theorem rd_take {w : World} {g off m k : Nat} {l : List (List UInt8)} (h : Rd w (some ⟨g, off, none⟩) m (txs l)) (hk : k ≤ m) : Rd w (some ⟨g, off, none⟩) k (txs (l.take k)) := by
  refine ⟨by have := h.1; simp [txs] at this ⊢; omega, fun h0 => ?_⟩
  obtain ⟨b, o, e, hl, hc⟩ := h.2 (by omega)
  refine ⟨b, o, e, hl, fun j hj => ?_⟩
  rw [hc j (by omega)]
  simp [txs, List.getElem?_take, hj]
set_option maxHeartbeats 2000000 in
theorem names_any (v2 v3 v4 v5 v6 : Value) (na : Option Addr) (m nc : Nat) (name : List UInt8) (l : List (List UInt8)) (w : World) (hm : l.length = m) (hg : Rd w na m (txs l)) (hl : m ≤ nc) (hl2 : m < 9223372036854775808) (hname : name.length < 9223372036854775808) (hns : ∀ n ∈ l, n.length < 9223372036854775808) :
    Calls Try.prog 25 #[.agg #[.string ⟨name.toArray⟩, .slice na m nc, v2, v3, v4, v5, v6]] w fun e w' => e = .returned (.bool (nameB name && needsB name l 0)) ∧ Below w.heap.size w w' := by
  obtain ⟨r, hr⟩ : ∃ r, (nameB name && needsB name l 0) = r := ⟨_, rfl⟩
  rw [hr]
  have HN0 := Lib.hid (fun W => name_any name W hname)
  obtain ⟨q0, hq0⟩ : ∃ q, nameB name = q := ⟨_, rfl⟩
  rw [hq0] at HN0 hr
  have HM := Lib.hid hm
  have HG := Lib.hid hg
  have HNS := Lib.hid hns
  clear hm hg hns hq0
  have HR := Lib.hid hr
  clear hr
  go_enter Try.func25, Try.ntmps25
  go_wp2_with fail
  refine (HN0.out _).mono ?_; rintro e w' ⟨rfl, rfl⟩
  cases q0 with
  | false =>
    have : false = r := HR.out
    subst this
    go_wp2_with fail
    go_ret
    exact ⟨rfl, bAlloc (Below.refl _ _) _⟩
  | true =>
    have HR2 : Hid (needsB name l 0 = r) := Lib.hid HR.out
    go_wp2_with fail
    obtain ⟨W1, hW1⟩ : ∃ W1, w.alloc (.cells #[.string ⟨name.toArray⟩, .slice na m nc, v2, v3, v4, v5, v6] 30) = W1 := ⟨_, rfl⟩
    have HB1 := Lib.hid (show Below w.heap.size w W1 by rw [← hW1]; exact bAlloc (Below.refl _ _) _)
    have b0 : W1.cell? ⟨w.heap.size, 0, none⟩ = some (.string ⟨name.toArray⟩) := by rw [← hW1]; exact cell_of_row _ _ 0 _ _ (0, 0) (heap_alloc_new w _)
    have b1 : W1.cell? ⟨w.heap.size, 1, none⟩ = some (.slice na m nc) := by rw [← hW1]; exact cell_of_row _ _ 1 _ _ (0, 0) (heap_alloc_new w _)
    rw [hW1]
    clear hW1
    go_loop [12] (fun i => ∃ k : Nat, i = .int .i64 k ∧ k ≤ m ∧ Hid (needsB name l k = r)) (fun i => m - (intOf i).toNat)
    case atStart => exact ⟨0, rfl, by omega, HR2⟩
    case round =>
      obtain ⟨k, rfl, hk, HQ⟩ := hrel
      by_cases hlt : k < m
      · have hkl : k < l.length := by rw [HM.out]; exact hlt
        have HG1 := Lib.hid (HG.out.below HB1.out)
        obtain ⟨g, off, hge, -, hc⟩ := HG1.out.at_ hlt
        subst hge
        rw [txs_get l k hkl] at hc
        have hq := (needsB_step name l k hkl).symm.trans HQ.out
        have hyl := HNS.out _ (List.getElem_mem hkl)
        obtain ⟨y, hy⟩ : ∃ y, l[k] = y := ⟨_, rfl⟩
        rw [hy] at hc hq hyl
        have HNY := Lib.hid (fun W => name_any y W hyl)
        have HCY := Lib.hid (contains_any (some ⟨g, off, none⟩) k nc (l.take k) y W1 (by rw [List.length_take, HM.out]; omega) (rd_take HG1.out (by omega)) (by omega))
        obtain ⟨q1, hq1⟩ : ∃ q, nameB y = q := ⟨_, rfl⟩
        obtain ⟨q3, hq3⟩ : ∃ q, (l.take k).contains y = q := ⟨_, rfl⟩
        rw [hq1] at HNY hq
        rw [hq3] at HCY hq
        have HQ2 := Lib.hid hq
        have kk0 : (0 : Int) ≤ (k : Int) := by omega
        have kk1 : (k : Int) < (m : Int) := by omega
        have kk2 : (k : Int) ≤ (nc : Int) := by omega
        clear hq hyl hkl hy hq1 hq3 HQ
        cases q1 with
        | false =>
          go_wp2_with fail
          refine (HNY.out _).mono ?_; rintro e w' ⟨rfl, rfl⟩
          go_wp2_with fail
          go_ret
          exact ⟨ret_bool (by rw [← HQ2.out]; simp), HB1.out⟩
        | true =>
          by_cases he : y = name
          · subst he
            go_wp2_with fail
            refine (HNY.out _).mono ?_; rintro e w' ⟨rfl, rfl⟩
            go_wp2_with fail
            go_ret
            exact ⟨ret_bool (by rw [← HQ2.out]; simp), HB1.out⟩
          · have hse : (y == name) = false := by simp [he]
            have hne : (y != name) = true := by simp [he]
            go_wp2_with fail
            refine (HNY.out _).mono ?_; rintro e w' ⟨rfl, rfl⟩
            go_wp2_with fail
            refine HCY.out.mono ?_; rintro e w' ⟨rfl, rfl⟩
            cases q3 with
            | true =>
              go_wp2_with fail
              go_ret
              exact ⟨ret_bool (by rw [← HQ2.out]; simp), HB1.out⟩
            | false =>
              have hq := HQ2.out
              rw [hne] at hq
              have HQ3 : Hid (needsB name l (k + 1) = r) := Lib.hid (by simpa using hq)
              clear hq
              go_wp2_with fail
              go_round
              case rel => exact ⟨k + 1, by go_num, by omega, HQ3⟩
              case measure => simp [intOf]; omega
      · have hk2 : k = m := by omega
        subst hk2
        have hn1 : true = r := by
          rw [← HQ.out, needsB_end name l k (by rw [HM.out]; omega)]
        subst hn1
        go_wp2_with fail
        go_ret
        exact ⟨rfl, HB1.out⟩
end Go.Proofs.Ytknldomgmogccaa
