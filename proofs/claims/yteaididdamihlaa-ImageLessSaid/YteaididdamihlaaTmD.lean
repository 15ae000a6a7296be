/- The program's memory: what is read: contracts. -/
import Derived.Test.YteaididdamihlaaTmC
namespace Go.Proofs.Yteaididdamihlaa
set_option linter.unusedVariables false
set_option linter.unusedSimpArgs false
open Go.Joins Go.ChangeShapes Go.WideShapes Go.ChangeAt Go.RowKit Go.Deep

theorem allB_iff (m : Mm) (a n : Nat) (hn : 0 < n) : allB m a n = true ↔ ∀ p, a / 256 ≤ p → p ≤ (a + (n - 1)) / 256 → p ∈ m.pgs := by
  unfold allB
  rw [List.all_eq_true]
  constructor
  · intro h p h1 h2
    by_cases hc : a ≤ 256 * p
    · have := h (256 * p - a) (List.mem_range.2 (by omega))
      rw [show (a + (256 * p - a)) / 256 = p by omega] at this
      exact of_decide_eq_true this
    · have := h 0 (List.mem_range.2 hn)
      rw [show (a + 0) / 256 = p by omega] at this
      exact of_decide_eq_true this
  · intro h i hi
    have := List.mem_range.1 hi
    exact decide_eq_true (h _ (by omega) (by omega))
set_option maxRecDepth 20000 in
theorem has_any (W : World) (M B : Nat) (D : DataW Unit) (pb : Nat → Nat) (F : Nat → Prop) (m : Mm) (h : MemO W M B D pb F m) (a n : Nat) (ha : a < 18446744073709551616) (hn : n < 9223372036854775808) :
    Calls Try.prog 32 #[.pointer (some ⟨M, 0, none⟩), .int .u64 (a : Int), .int .i64 (n : Int)] W fun e W' => e = .returned (.bool (allB m a n)) ∧ W = W' := by
  obtain ⟨r, hr⟩ : ∃ r, allB m a n = r := ⟨_, rfl⟩
  rw [hr]
  have HR := Lib.hid hr
  have HM := Lib.hid h
  clear hr h
  rcases Nat.eq_zero_or_pos n with h0 | h0
  · subst h0
    have hrt : true = r := by rw [← HR.out]; rfl
    subst hrt
    go_enter Try.func32, Try.ntmps32
    go_wp2_with fail
    go_ret
    exact ⟨rfl, rfl⟩
  · obtain ⟨k, rfl⟩ : ∃ k, n = k + 1 := ⟨n - 1, by omega⟩
    have HI := Lib.hid (allB_iff m a (k + 1) h0)
    have n0 : ¬ ((k + 1 : Nat) : Int) = 0 := by omega
    have w1 : IntKind.i64.wrap (((k + 1 : Nat) : Int) - 1) = (k : Int) := by rw [IntKind.wrap_i64]; omega
    have w2 : IntKind.u64.wrap (k : Int) = (k : Int) := by rw [IntKind.wrap_u64]; omega
    have w3 : IntKind.u64.wrap (18446744073709551615 - (a : Int)) = 18446744073709551615 - (a : Int) := by rw [IntKind.wrap_u64]; omega
    generalize hN : ((k + 1 : Nat) : Int) = N at *
    clear hN h0
    by_cases hov : 18446744073709551615 - (a : Int) < (k : Int)
    · have hrf : false = r := by
        rw [← HR.out]
        symm
        rw [Bool.eq_false_iff]
        intro hh
        have := HM.out.ok.pl _ (HI.out.1 hh ((a + (k + 1 - 1)) / 256) (by omega) (Nat.le_refl _))
        omega
      subst hrf
      go_enter Try.func32, Try.ntmps32
      go_wp2_with fail
      go_ret
      exact ⟨rfl, rfl⟩
    · have w4 : IntKind.u64.wrap ((a : Int) + (k : Int)) = (a : Int) + (k : Int) := by rw [IntKind.wrap_u64]; omega
      obtain ⟨z, hz⟩ : ∃ z, (a + k) / 256 = z := ⟨_, rfl⟩
      have hz2 : ((a : Int) + (k : Int)) / 256 = (z : Int) := by omega
      have HZ := Lib.hid hz
      obtain ⟨p0, hp0⟩ : ∃ z, a / 256 = z := ⟨_, rfl⟩
      have hp2 : (a : Int) / 256 = (p0 : Int) := by omega
      have HP0 := Lib.hid hp0
      have hz3 : p0 ≤ z := by omega
      have hz4 : z < 72057594037927936 := by omega
      clear hz hp0
      go_enter Try.func32, Try.ntmps32
      go_wp2_with fail
      go_loop [7] (fun i => ∃ p : Nat, i = .int .u64 p ∧ p0 ≤ p ∧ p ≤ z + 1 ∧ Hid (∀ q, p0 ≤ q → q < p → q ∈ m.pgs)) (fun i => z + 1 - (intOf i).toNat)
      case atStart => exact ⟨p0, rfl, by omega, by omega, Lib.hid (fun q h1 h2 => by omega)⟩
      case round =>
        obtain ⟨p, rfl, hp1, hp3, HQ⟩ := hrel
        by_cases hlt : p ≤ z
        · have hlt' : (p : Int) ≤ (z : Int) := by omega
          have w5 : IntKind.u64.wrap ((p : Int) * 256) = ((p * 256 : Nat) : Int) := by rw [IntKind.wrap_u64]; omega
          have HP := Lib.hid (pageOf_any W M B D pb F m HM.out (p * 256) (by omega))
          rw [show p * 256 / 256 = p by omega] at HP
          have w6 : IntKind.u64.wrap ((p : Int) + 1) = (p : Int) + 1 := by rw [IntKind.wrap_u64]; omega
          by_cases hin : p ∈ m.pgs
          · have hpp : pgP pb m p = some ⟨pb p, 0, none⟩ := if_pos hin
            rw [hpp] at HP
            have HQ2 : Hid (∀ q, p0 ≤ q → q < p + 1 → q ∈ m.pgs) := Lib.hid (fun q h1 h2 => by
              by_cases e : q = p
              · rw [e]; exact hin
              · exact HQ.out q h1 (by omega))
            clear hpp hin
            go_wp2_with fail
            refine HP.out.mono ?_; rintro e W1 ⟨rfl, rfl⟩
            go_wp2_with fail
            go_round
            case rel => exact ⟨p + 1, by go_num, by omega, by omega, HQ2⟩
            case measure => simp [intOf]; omega
          · have hpp : pgP pb m p = none := if_neg hin
            rw [hpp] at HP
            have hrf : false = r := by
              rw [← HR.out]
              symm
              rw [Bool.eq_false_iff]
              intro hh
              exact hin (HI.out.1 hh p (by rw [HP0.out]; exact hp1) (by rw [Nat.add_sub_cancel, HZ.out]; exact hlt))
            subst hrf
            clear hpp hin
            go_wp2_with fail
            refine HP.out.mono ?_; rintro e W1 ⟨rfl, rfl⟩
            go_wp2_with fail
            go_ret
            exact ⟨rfl, rfl⟩
        · have hlt' : ¬ (p : Int) ≤ (z : Int) := by omega
          have hrt : true = r := by
            rw [← HR.out]
            symm
            exact HI.out.2 (fun q h1 h2 => HQ.out q (by rw [← HP0.out]; exact h1) (by rw [Nat.add_sub_cancel, HZ.out] at h2; omega))
          subst hrt
          go_wp2_with fail
          go_ret
          exact ⟨rfl, rfl⟩
theorem MemO.rdB {W : World} {M B : Nat} {D : DataW Unit} {pb : Nat → Nat} {F : Nat → Prop} {m : Mm} (h : MemO W M B D pb F m) (a n : Nat) (hp : a / 256 ∈ m.pgs) (hf : a % 256 + n ≤ 256) : Rd W (some ⟨pb (a / 256), a % 256, none⟩) n (u8s (manyB m a n)) := by
  refine ⟨by rw [u8s_length, manyB_len], fun h0 => ⟨_, _, rfl, (h.pg _ hp).lt, fun k hk => ?_⟩⟩
  rw [(h.pg _ hp).cell, List.getElem?_toArray, pageC_by _ _ _ (by omega), u8s_get _ _ (by rw [manyB_len]; exact hk), manyB_get, show 256 * (a / 256) + (a % 256 + k) = a + k by omega]
theorem num_place (pb : Nat → Nat) (m : Mm) (a : Nat) (n : Int) : (numE m a n = 0 ∧ (n = 1 ∨ n = 2 ∨ n = 4 ∨ n = 8) ∧ a % n.toNat = 0 ∧ a / 256 ∈ m.pgs ∧ numV pb m a n = .tuple #[.pointer (some ⟨pb (a / 256), 0, none⟩), .int .i64 ((a % 256 : Nat) : Int), .int .i64 0]) ∨
    (numE m a n ≠ 0 ∧ numV pb m a n = .tuple #[.pointer none, .int .i64 0, .int .i64 (numE m a n)]) := by
  have hd : ((a : Int) / 256).toNat = a / 256 := by omega
  by_cases hn : n = 1 ∨ n = 2 ∨ n = 4 ∨ n = 8
  · have h1 : ¬ (n ≠ 1 ∧ n ≠ 2 ∧ n ≠ 4 ∧ n ≠ 8) := by omega
    have hm : ((a : Int) % n ≠ 0) ↔ a % n.toNat ≠ 0 := by rcases hn with rfl | rfl | rfl | rfl <;> simp <;> omega
    unfold numE numV placeV isIn
    rw [if_neg h1, if_pos hn, hd]
    by_cases hal : a % n.toNat = 0
    · rw [if_neg (show ¬ ((a : Int) % n ≠ 0) from fun e => (hm.1 e) hal), if_neg (show ¬ (a % n.toNat ≠ 0) from fun e => e hal)]
      by_cases hin : a / 256 ∈ m.pgs
      · left
        rw [if_pos hin, if_pos (decide_eq_true hin)]
        exact ⟨rfl, hn, hal, hin, rfl⟩
      · right
        rw [if_neg hin, if_neg (by rw [decide_eq_false hin]; decide)]
        exact ⟨by decide, rfl⟩
    · right
      rw [if_pos (hm.2 hal), if_pos hal]
      exact ⟨by decide, rfl⟩
  · right
    have h1 : n ≠ 1 ∧ n ≠ 2 ∧ n ≠ 4 ∧ n ≠ 8 := by omega
    unfold numE numV
    rw [if_pos h1, if_neg hn]
    exact ⟨by decide, rfl⟩
theorem run_slA (w : World) (b i n : Nat) (hi : i < 256) (hn : i + n ≤ 256) :
    (Instr.sliceAt 75 (.pointer (some ⟨b, 0, none⟩)) (some (.int .i64 (i : Int))) (some (.int .i64 ((i : Int) + (n : Int)))) none).run Try.prog w = .ok (.slice (some ⟨b, i, none⟩) n (256 - i)) w := by
  have hu := Try.underlying75
  have ho : (sizeOf 5).run Try.prog w = .ok 1 w := by kernel_rfl
  have hl : Try.prog.arrayLen 75 = 256 := by kernel_rfl
  have he : Try.prog.elem 75 = 5 := by kernel_rfl
  rw [run_sliceAt_array_lh w 75 ⟨b, 0, none⟩ (by rw [hl, he]; exact hu) .i64 .i64 (i : Int) ((i : Int) + (n : Int)) (by omega) (by omega) (by rw [hl]; omega), he, ho]
  simp only [Result.andThen, slicedAt, hl]
  rw [if_neg (by omega), show ((i : Int) + (n : Int)).toNat = i + n by omega, Int.toNat_natCast]
  simp [Addr.add]
  exact fun e => e.symm
end Go.Proofs.Yteaididdamihlaa
