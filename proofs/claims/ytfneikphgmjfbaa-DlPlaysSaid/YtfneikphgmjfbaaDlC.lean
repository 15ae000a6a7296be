/- Lists of numbers: asked, copied, cut, each once: contracts. -/
import Derived.Test.YtfneikphgmjfbaaDlB
import Derived.Test.YtfneikphgmjfbaaShelf
import Derived.Deep.RegionHeld3
import Derived.Maps.OwnSet
import Derived.Maps.AppendAt
import Derived.Deep.Slices
namespace Go.Proofs.Ytfneikphgmjfbaa
set_option linter.unusedVariables false
set_option linter.unusedSimpArgs false
open Go.Joins Go.ChangeShapes Go.WideShapes Go.ChangeAt Go.RowKit Go.Sort

/-- what a slice of no address has room for -/
theorem rd_cells {w : World} {b off n : Nat} {z : List Int} (h : Rd w (some ⟨b, off, none⟩) n (i64s z)) (hn : 0 < n) : b < w.heap.size ∧ ∀ j, j < n → w.cell? ⟨b, off + j, none⟩ = some (.int .i64 (z.getD j 0)) := by
  obtain ⟨b', off', e, hlt, hc⟩ := h.2 hn
  cases e
  refine ⟨hlt, fun j hj => ?_⟩
  have hz : z.length = n := by rw [← i64s_length]; exact h.1
  rw [hc j hj, i64s_get z j (by omega)]
  simp [List.getD, List.getElem?_eq_getElem (show j < z.length by omega)]
theorem contains_any (a : Option Addr) (n c : Nat) (z : List Int) (x : Int) (w : World) (h : Rd w a n (i64s z)) (hn : n ≤ 1000000) :
    Calls Try.prog 36 #[.slice a n c, .int .i64 x] w fun e w' => e = .returned (.bool (z.contains x)) ∧ w = w' := by
  have hz : z.length = n := by rw [← i64s_length]; exact h.1
  rcases Nat.eq_zero_or_pos n with h0 | h0
  · subst h0
    refine (Try.slices_Contains_int_empty a c x w).mono ?_
    rintro e w' ⟨rfl, rfl⟩
    rw [List.eq_nil_of_length_eq_zero hz]
    exact ⟨rfl, rfl⟩
  · obtain ⟨b, off, rfl, -⟩ := h.2 h0
    obtain ⟨hlt, hc⟩ := rd_cells h h0
    refine (Try.slices_Contains_int b off n c z x w (by omega) (by omega) (fun j hj => hc j (by omega))).mono ?_
    rintro e w' ⟨rfl, rfl⟩
    rw [List.take_of_length_le (by omega)]
    exact ⟨rfl, rfl⟩
theorem clone_any (a : Option Addr) (n c : Nat) (z : List Int) (w : World) (h : Rd w a n (i64s z)) (hn : n ≤ 1000000) :
    Calls Try.prog 48 #[.slice a n c] w fun e w' => ∃ a' c', e = .returned (.slice a' n c') ∧ w'.ownsRow w.heap.size 3 1 (.slice a' n c') n (i64s z) ∧ Below w.heap.size w w' := by
  have hz : z.length = n := by rw [← i64s_length]; exact h.1
  rcases Nat.eq_zero_or_pos n with h0 | h0
  · subst h0
    have hz0 := List.eq_nil_of_length_eq_zero hz
    subst hz0
    cases a with
    | none =>
      refine (Try.slices_Clone_int_nil 0 c w).mono ?_
      rintro e w' ⟨rfl, rfl⟩
      exact ⟨none, 0, rfl, World.ownsRow_nil _ _ _ _, Below.refl _ _⟩
    | some a =>
      refine (Try.slices_Clone_int_zero a c w).mono ?_
      rintro e w' ⟨v, rfl, ho, -, hb⟩
      obtain ⟨a', c', rfl, -⟩ := own_slice ho
      exact ⟨a', c', rfl, ho, hb⟩
  · obtain ⟨b, off, rfl, -⟩ := h.2 h0
    obtain ⟨hlt, hc⟩ := rd_cells h h0
    refine (Try.slices_Clone_int b off n c z w (by omega) (by omega) (fun j hj => hc j (by omega))).mono ?_
    rintro e w' ⟨v, rfl, ho, -, hb⟩
    rw [List.take_of_length_le (by omega)] at ho
    obtain ⟨a', c', rfl, -⟩ := own_slice ho
    exact ⟨a', c', rfl, ho, hb⟩
/-- a row of one's own, cut to its beginning behind its cells were laid anew -/
theorem own_put {w : World} {B g c n : Nat} {z : List Int} (q : Nat) (ts rest : List Int) (ho : w.ownsRow B 3 1 (.slice (some ⟨g, 0, none⟩) n c) n (i64s z)) (hl : ts.length + rest.length = n) :
    (putRow (Value.int .i64) (Sort.ahead w q) g 0 (ts ++ rest).toArray).ownsRow B 3 1 (.slice (some ⟨g, 0, none⟩) ts.length c) ts.length (i64s ts) ∧ w.grownBy (putRow (Value.int .i64) (Sort.ahead w q) g 0 (ts ++ rest).toArray) (some g) := by
  have hgr : w.grownBy (putRow (Value.int .i64) (Sort.ahead w q) g 0 (ts ++ rest).toArray) (some g) := by
    have := grownBy_sortedI (w := w) (g := g) (n := q) (os := #[]) (ts ++ rest).toArray
    rwa [grow_empty] at this
  refine ⟨?_, hgr⟩
  rcases ho.2 with ⟨h1, -⟩ | ⟨g', cap, cur, h1, hg, hh, hnc, hcm, hcs, htake⟩
  · cases h1
  · cases h1
    have hh2 := heap_sortedI (n := q) (os := #[]) (ts ++ rest).toArray hh
    rw [grow_empty] at hh2
    refine ⟨by simp [i64s], .inr ⟨g, c, _, rfl, hg, hh2, by omega, hcm, by simp [putCells, hcs], ?_⟩⟩
    have ht := take_putCellsI cur (ts ++ rest) (by rw [List.length_append]; omega)
    have := congrArg (List.take ts.length) ht
    rw [List.take_take, Nat.min_eq_left (by simp)] at this
    rw [Nat.mul_one, this, List.map_append, List.take_left' (by simp)]
    rfl
theorem own_holds {w : World} {B g c n : Nat} {z : List Int} (ho : w.ownsRow B 3 1 (.slice (some ⟨g, 0, none⟩) n c) n (i64s z)) : Holds (Value.int .i64) w g 0 z.toArray ∧ z.length = n ∧ n ≤ c ∧ c ≤ maxLen ∧ B ≤ g ∧ g < w.heap.size := by
  have hz : z.length = n := by have := ho.1; rw [i64s_length] at this; omega
  rcases ho.2 with ⟨h1, -⟩ | ⟨g', cap, cur, h1, hg, hh, hnc, hcm, hcs, htake⟩
  · cases h1
  · cases h1
    have hgl : g < w.heap.size := by
      rcases Nat.lt_or_ge g w.heap.size with h | h
      · exact h
      · rw [Array.getElem?_eq_none h] at hh; cases hh
    exact ⟨holds_of_blockI hh (by simpa [i64s, hz] using htake), hz, hnc, hcm, hg, hgl⟩
theorem delete_any (a : Option Addr) (n c B i : Nat) (z : List Int) (w : World) (ho : w.ownsRow B 3 1 (.slice a n c) n (i64s z)) (hi : i < n) :
    Calls Try.prog 39 #[.slice a n c, .int .i64 (i : Int), .int .i64 ((i : Int) + 1)] w fun e w' => e = .returned (.slice a (n - 1) c) ∧ w'.ownsRow B 3 1 (.slice a (n - 1) c) (n - 1) (i64s (z.eraseIdx i)) ∧ w.grownBy w' (Value.slice a n c).ownBlock := by
  rcases ho.2 with ⟨h1, h2⟩ | ⟨g, cap, cur, h1, -⟩
  · omega
  · cases h1
    obtain ⟨hH, hz, hnc, hcm, hBg, hgl⟩ := own_holds ho
    unfold maxLen at hcm
    subst hz
    refine (Try.slices_Delete_int g 0 c i (i + 1) z w hH hnc (by omega) (by omega) (by omega)).mono ?_
    rintro e w' ⟨rfl, q, rfl⟩
    have e1 : z.take i ++ z.drop (i + 1) = z.eraseIdx i := (List.eraseIdx_eq_take_drop_succ z i).symm
    have e2 : (z.eraseIdx i).length = z.length - 1 := by rw [List.length_eraseIdx, if_pos hi]
    rw [e1, show i + 1 - i = 1 by omega]
    obtain ⟨h3, h4⟩ := own_put q (z.eraseIdx i) (List.replicate 1 0) ho (by rw [e2]; simp; omega)
    rw [e2] at h3
    exact ⟨rfl, h3, h4⟩
theorem lastplace_any (a : Option Addr) (n c : Nat) (z : List Int) (x : Int) (w : World) (h : Rd w a n (i64s z)) (hn : n ≤ 1000000) :
    Calls Try.prog 37 #[.slice a n c, .int .i64 x] w fun e w' => (∃ k : Int, e = .returned (.int .i64 k) ∧ ((k < 1 ∧ lastN z x n = 0) ∨ (1 ≤ k ∧ k = (lastN z x n : Int) ∧ k < (n : Int)))) ∧ w = w' := by
  have hz : z.length = n := by rw [← i64s_length]; exact h.1
  have HZ := Lib.hid hz
  have HL := Lib.hid h
  obtain ⟨r, hr⟩ : ∃ r, lastN z x n = r := ⟨_, rfl⟩
  rw [hr]
  have HR := Lib.hid hr
  clear h hz hr
  go_enter Try.func37, Try.ntmps37
  go_wp2_with fail
  go_loop [5] (fun i => ∃ k : Nat, k ≤ n ∧ i = .int .i64 ((k : Int) - 1) ∧ Hid (lastN z x k = r)) (fun i => (intOf i + 1).toNat)
  case atStart => exact ⟨n, Nat.le_refl _, rfl, HR⟩
  case round =>
    obtain ⟨k, hk, rfl, HK⟩ := hrel
    rcases Nat.eq_zero_or_pos k with h0 | h0
    · subst h0
      have HK0 := Lib.hid (show r = 0 from HK.out.symm)
      clear HK HR
      go_wp2_with fail
      go_ret
      exact ⟨⟨_, rfl, Or.inl ⟨by decide, HK0.out⟩⟩, rfl⟩
    · obtain ⟨k, rfl⟩ : ∃ q, k = q + 1 := ⟨k - 1, by omega⟩
      have hkl : k < z.length := by rw [HZ.out]; omega
      obtain ⟨b, o, rfl, -, hc⟩ := HL.out.at_ (show k < n by omega)
      rw [i64s_get z k hkl] at hc
      have e1 : ((k + 1 : Nat) : Int) - 1 = (k : Int) := by omega
      rw [e1]
      have hu : lastN z x (k + 1) = if z[k]? = some x then k else lastN z x k := rfl
      rw [List.getElem?_eq_getElem hkl] at hu
      obtain ⟨y, hy⟩ : ∃ y, z[k] = y := ⟨_, rfl⟩
      rw [hy] at hc hu
      have hkr := HK.out
      rw [hu] at hkr
      clear hu hy e1 HK HR
      by_cases hxy : (y == x) = true
      · have hkr2 : k = r := by rw [if_pos (by rw [beq_iff_eq] at hxy; rw [hxy])] at hkr; exact hkr
        have HKR := Lib.hid hkr2
        clear hkr hkr2
        go_wp2_with fail
        go_ret
        refine ⟨⟨_, rfl, ?_⟩, rfl⟩
        have := HKR.out
        subst this
        rcases Nat.eq_zero_or_pos k with h1 | h1
        · exact Or.inl ⟨by omega, h1⟩
        · exact Or.inr ⟨by omega, rfl, by omega⟩
      · have hkr2 : lastN z x k = r := by rw [if_neg (by intro e; cases e; exact hxy (by simp))] at hkr; exact hkr
        have HKR := Lib.hid hkr2
        rw [Bool.not_eq_true] at hxy
        clear hkr hkr2
        go_wp2_with fail
        go_round
        case rel => exact ⟨k, by omega, rfl, HKR⟩
        case measure => simp [intOf] <;> omega
end Go.Proofs.Ytfneikphgmjfbaa
