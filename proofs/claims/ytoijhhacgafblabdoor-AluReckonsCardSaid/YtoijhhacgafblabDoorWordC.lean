/- Contracts of the document's own long division, and product. -/
import Derived.Test.YtoijhhacgafblabDoorWordB
namespace Go.Proofs.YtoijhhacgafblabDoor
set_option linter.unusedSimpArgs false
set_option linter.unusedVariables false
open Go.ChangeShapes Go.WideShapes Go.ChangeAt Go.RowKit

theorem divide_any (a b : Int) (w : World) (ha0 : 0 ≤ a) (ha1 : a < 18446744073709551616) (hb0 : 1 ≤ b) (hb1 : b < 18446744073709551616) :
    Calls Tryd.prog 75 #[.int .u64 a, .int .u64 b] w fun e w' => e = .returned (.tuple #[.int .u64 (a / b), .int .u64 (a % b)]) ∧ w = w' := by
  obtain ⟨a, rfl⟩ := Int.eq_ofNat_of_zero_le ha0
  obtain ⟨b, rfl⟩ := Int.eq_ofNat_of_zero_le (show 0 ≤ b by omega)
  have ha : a < 18446744073709551616 := by omega
  have hb : b < 18446744073709551616 := by omega
  have hb' : 1 ≤ b := by omega
  clear ha0 ha1 hb0 hb1
  go_enter Tryd.func75, Tryd.ntmps75
  go_wp2
  have hst := d_start a b ha
  go_loop [6, 7, 8] (fun q r i => ∃ j : Nat, j ≤ 64 ∧ i = .int .i64 ((j : Int) - 1) ∧ q = .int .u64 ((dq a b j : Nat) : Int) ∧ r = .int .u64 ((dr a b j : Nat) : Int)) (fun _ _ i => (intOf i + 1).toNat)
  case atStart => exact ⟨64, by omega, rfl, by rw [hst.1]; rfl, by rw [hst.2]; rfl⟩
  case round =>
    obtain ⟨j, hj, rfl, rfl, rfl⟩ := hrel
    clear hst
    rcases j with _ | j
    · have E := Lib.hid (d_end a b)
      go_wp2
      go_ret2
      rw [E.out.1, E.out.2]
      exact ⟨by simp, rfl⟩
    · have e1 : ((j + 1 : Nat) : Int) - 1 = (j : Int) := by omega
      rw [e1]
      clear e1
      have hr := dr_lt a b (j + 1) hb'
      have hc : a / 2 ^ j % 2 < 2 := Nat.mod_lt _ (by decide)
      have hov := over_form (dr a b (j + 1)) (by omega)
      have hcmp : decide ((b : Int) ≤ bits .or .u64 (IntKind.u64.wrap ((dr a b (j + 1) : Nat) * 2 : Int)) (bits .and .u64 ((a : Int) / 2 ^ j) 1)) = decide (b ≤ (2 * dr a b (j + 1) + a / 2 ^ j % 2) % 18446744073709551616) := by
        rw [next_form _ a j ha]; exact decide_eq_decide.2 Int.ofNat_le
      have hj' : j < 64 := by omega
      by_cases ht : b ≤ 2 * dr a b (j + 1) + a / 2 ^ j % 2
      · have E := Lib.hid (d_take a b j hb' ht)
        have S := Lib.hid (sub_form _ a b j ha hb' hb hr ht)
        have O := Lib.hid (or_top a b j hj' ha)
        by_cases hx : 9223372036854775808 ≤ dr a b (j + 1)
        · rw [decide_eq_true hx] at hov
          clear hcmp hx hr hc ht hj
          go_wp2
          go_round
          case rel => exact ⟨j, by omega, rfl, by rw [O.out, E.out.1], by rw [S.out, E.out.2]⟩
          case measure => simp [intOf]; try omega
        · rw [decide_eq_false hx] at hov
          rw [show decide (b ≤ (2 * dr a b (j + 1) + a / 2 ^ j % 2) % 18446744073709551616) = true from decide_eq_true (by omega)] at hcmp
          clear hx hr hc ht hj
          go_wp2
          go_round
          case rel => exact ⟨j, by omega, rfl, by rw [O.out, E.out.1], by rw [S.out, E.out.2]⟩
          case measure => simp [intOf]; try omega
      · have E := Lib.hid (d_skip a b j hb' ht)
        have N := Lib.hid (next_form (dr a b (j + 1)) a j ha)
        have hm : (2 * dr a b (j + 1) + a / 2 ^ j % 2) % 18446744073709551616 = 2 * dr a b (j + 1) + a / 2 ^ j % 2 := Nat.mod_eq_of_lt (by omega)
        have M := Lib.hid hm
        rw [decide_eq_false (by omega)] at hov
        rw [show decide (b ≤ (2 * dr a b (j + 1) + a / 2 ^ j % 2) % 18446744073709551616) = false from decide_eq_false (by omega)] at hcmp
        clear hm hr hc ht hj
        go_wp2
        go_round
        case rel => exact ⟨j, by omega, rfl, by rw [E.out.1], by rw [N.out, M.out, E.out.2]⟩
        case measure => simp [intOf]; try omega

def low_is (x : Int) : Bool := decide (9223372036854775808 ≤ x)
theorem both_any (x y : Int) (s : Bool) (w : World) (hx0 : 0 ≤ x) (hx1 : x < 18446744073709551616) (hy0 : 0 ≤ y) (hy1 : y < 18446744073709551616) :
    Calls Tryd.prog 69 #[.int .u64 x, .int .u64 y, .bool s] w fun e w' => e = .returned (.tuple #[.int .u64 (quotZ x y s), .int .u64 (restZ x y s)]) ∧ w = w' := by
  by_cases h : y = 0
  · subst h
    clear hx0 hx1 hy0 hy1
    have hz : quotZ x 0 s = 18446744073709551615 := by unfold quotZ; rw [if_pos rfl]
    have hr : restZ x 0 s = x := by unfold restZ; rw [if_pos rfl]
    rw [hz, hr]
    clear hz hr
    go_enter Tryd.func69, Tryd.ntmps69
    go_wp2
    go_ret2
    exact ⟨rfl, rfl⟩
  · have h' : (y == 0) = false := by rw [beq_eq_false_iff_ne]; exact h
    have hp := mag_pos y true (by omega) hy1
    have hm := mag_in x true hx0 hx1
    have hn := mag_in y true hy0 hy1
    cases s
    · rw [quot_f x y h, rest_f x y h]
      have hd := divide_any x y w hx0 hx1 (by omega) hy1
      have HD := Lib.hid hd
      clear hd
      go_enter Tryd.func69, Tryd.ntmps69
      go_wp2_with (go_at_call 75; refine (HD.out).mono ?_; rintro e w' ⟨rfl, rfl⟩)
      go_ret2
      exact ⟨rfl, rfl⟩
    · rw [quot_t x y h, rest_t x y h]
      have hd := divide_any (mag x true) (mag y true) w hm.1 hm.2 hp hn.2
      have mx := mag_t x hx0 hx1
      have my := mag_t y hy0 hy1
      cases ha : negB x <;> cases hb : negB y <;> simp only [bne_self_eq_false, if_true, if_false, Bool.false_eq_true, Bool.true_bne, Bool.false_bne, Bool.not_false, Bool.not_true, ha, hb] at mx my ⊢
      all_goals
        rw [← mx, ← my] at hd ⊢
        have HD := Lib.hid hd
        clear hd mx my hm hn hp
        unfold negB at ha hb
        go_enter Tryd.func69, Tryd.ntmps69
        go_wp2_with (first | (go_at_call 75; refine (HD.out).mono ?_; rintro e w' ⟨rfl, rfl⟩) | (go_at_call 74; go_enter Tryd.func74, Tryd.ntmps74))
        go_ret2
        exact ⟨rfl, rfl⟩
theorem rquot_any (x y : Int) (s : Bool) (w : World) (hx0 : 0 ≤ x) (hx1 : x < 18446744073709551616) (hy0 : 0 ≤ y) (hy1 : y < 18446744073709551616) :
    Calls Tryd.prog 58 #[.int .u64 x, .int .u64 y, .bool s] w fun e w' => e = .returned (.int .u64 (quotZ x y s)) ∧ w = w' := by
  go_enter Tryd.func58, Tryd.ntmps58
  go_wp2_with (go_at_call 69; refine (both_any _ _ _ _ hx0 hx1 hy0 hy1).mono ?_; rintro e w' ⟨rfl, rfl⟩)
  go_ret
  exact ⟨rfl, rfl⟩
theorem rrest_any (x y : Int) (s : Bool) (w : World) (hx0 : 0 ≤ x) (hx1 : x < 18446744073709551616) (hy0 : 0 ≤ y) (hy1 : y < 18446744073709551616) :
    Calls Tryd.prog 59 #[.int .u64 x, .int .u64 y, .bool s] w fun e w' => e = .returned (.int .u64 (restZ x y s)) ∧ w = w' := by
  go_enter Tryd.func59, Tryd.ntmps59
  go_wp2_with (go_at_call 69; refine (both_any _ _ _ _ hx0 hx1 hy0 hy1).mono ?_; rintro e w' ⟨rfl, rfl⟩)
  go_ret
  exact ⟨rfl, rfl⟩
theorem add_any (ah al bh bl : Int) (w : World) :
    Calls Tryd.prog 68 #[.int .u64 ah, .int .u64 al, .int .u64 bh, .int .u64 bl] w fun e w' => e = .returned (.tuple #[.int .u64 (addH ah al bh bl), .int .u64 (IntKind.u64.wrap (al + bl))]) ∧ w = w' := by
  unfold addH
  by_cases h : IntKind.u64.wrap (al + bl) < al
  · rw [if_pos h]
    have h' : decide (IntKind.u64.wrap (al + bl) < al) = true := decide_eq_true h
    clear h
    go_enter Tryd.func68, Tryd.ntmps68
    go_wp2
    go_ret2
    exact ⟨rfl, rfl⟩
  · rw [if_neg h]
    have h' : decide (IntKind.u64.wrap (al + bl) < al) = false := decide_eq_false h
    clear h
    go_enter Tryd.func68, Tryd.ntmps68
    go_wp2
    go_ret2
    exact ⟨rfl, rfl⟩
theorem bit_any (x i : Int) (w : World) (h0 : 0 ≤ i) (h1 : i ≤ 63) :
    Calls Tryd.prog 31 #[.int .u64 x, .int .i64 i] w fun e w' => e = .returned (.int .u64 (bits .and .u64 (x / 2 ^ i.toNat) 1)) ∧ w = w' := by
  go_enter Tryd.func31, Tryd.ntmps31
  go_wp2
  go_ret
  exact ⟨rfl, rfl⟩
set_option maxHeartbeats 1000000 in
theorem rhigh_any (a b : Int) (s t : Bool) (w : World) (ha0 : 0 ≤ a) (ha1 : a < 18446744073709551616) (hb0 : 0 ≤ b) (hb1 : b < 18446744073709551616) :
    Calls Tryd.prog 57 #[.int .u64 a, .int .u64 b, .bool s, .bool t] w fun e w' => e = .returned (.int .u64 (highZ a b s t)) ∧ w = w' := by
  have hs := sgn_hi a s ha0 ha1
  obtain ⟨b, rfl⟩ := Int.eq_ofNat_of_zero_le hb0
  have hb : b < 18446744073709551616 := by omega
  have hE : highZ a b s t = hi128 (SS (sgd a s) b t 64) := by rw [SS_last, Int.mul_comm]; rfl
  rw [hE]
  generalize sgd a s = A at *
  have ng : (bits .and .u64 (a / 9223372036854775808) 1 == 1) = negB a := by
    obtain ⟨x, rfl⟩ := Int.eq_ofNat_of_zero_le ha0
    have := bit1_form x 63 (by omega)
    rw [show (9223372036854775808 : Int) = 2 ^ 63 from rfl, this]
    unfold negB
    exact decide_eq_decide.2 (by omega)
  clear ha0 ha1 hb0 hb1 hE
  cases s <;> cases hn : negB a <;> rw [hn] at hs ng <;> simp only [Bool.true_and, Bool.false_and, if_true, if_false, Bool.false_eq_true] at hs
  all_goals
    have HS := Lib.hid hs
    clear hs hn
    go_enter Tryd.func57, Tryd.ntmps57
    go_wp2_with (first | (go_at_call 31; refine (bit_any _ _ _ (by omega) (by omega)).mono ?_; rintro e w' ⟨rfl, rfl⟩))
    clear ng
    go_loop [9, 10, 11, 12, 13] (fun h l ah al i => ∃ k : Nat, k ≤ 64 ∧ i = .int .i64 k ∧ h = .int .u64 (hi128 (SS A b t k)) ∧ l = .int .u64 (lo128 (SS A b t k)) ∧ ah = .int .u64 (hi128 (A * 2 ^ k)) ∧ al = .int .u64 (lo128 (A * 2 ^ k))) (fun _ _ _ _ i => 64 - (intOf i).toNat)
    case atStart => exact ⟨0, by omega, rfl, by rw [SS_zero]; rfl, by rw [SS_zero]; rfl, by rw [Int.pow_zero, Int.mul_one, HS.out.1], by rw [Int.pow_zero, Int.mul_one, HS.out.2]⟩
    case round =>
      obtain ⟨k, hk, rfl, rfl, rfl, rfl, rfl⟩ := hrel
      by_cases hlt : k < 64
      · have hbit := bit1_form b k hb
        have H2 := Lib.hid (shl_hi (A * 2 ^ k))
        have L2 := Lib.hid (shl_lo (A * 2 ^ k))
        have T2 := Lib.hid (two_pow A k)
        by_cases hc : b / 2 ^ k % 2 = 1
        · rw [decide_eq_true hc] at hbit
          by_cases hm : k = 63 ∧ t = true
          · obtain ⟨h63, rfl⟩ := hm
            have HN := Lib.hid (high_neg_h A b k hb hc h63)
            have hm' : ((k : Int) == 63) = true := by rw [beq_iff_eq]; omega
            have hsg : IntKind.u64.signed = false := rfl
            clear h63 hc
            go_wp2_with (first | (go_at_call 68; refine (add_any _ _ _ _ _).mono ?_; rintro e w' ⟨rfl, rfl⟩) | (go_at_call 31; refine (bit_any _ _ _ (by omega) (by omega)).mono ?_; rintro e w' ⟨rfl, rfl⟩))
            go_round
            case rel => exact ⟨k + 1, by omega, by go_num, by rw [HN.out.1], by rw [HN.out.2], by rw [H2.out, T2.out], by rw [L2.out, T2.out]⟩
            case measure => simp [intOf]; try omega
          · have HA := Lib.hid (SS_add A b t k hlt hb hc (fun e => by cases t <;> simp_all))
            have A1 := Lib.hid (add_hi (SS A b t k) (A * 2 ^ k))
            have A2 := Lib.hid (add_lo (SS A b t k) (A * 2 ^ k))
            clear hc
            by_cases h63 : k = 63
            · have ht : t = false := by cases t <;> simp_all
              subst ht
              have hm' : ((k : Int) == 63) = true := by rw [beq_iff_eq]; omega
              clear h63 hm
              go_wp2_with (first | (go_at_call 68; refine (add_any _ _ _ _ _).mono ?_; rintro e w' ⟨rfl, rfl⟩) | (go_at_call 31; refine (bit_any _ _ _ (by omega) (by omega)).mono ?_; rintro e w' ⟨rfl, rfl⟩))
              go_round
              case rel => exact ⟨k + 1, by omega, by go_num, by rw [A1.out, HA.out], by rw [A2.out, HA.out], by rw [H2.out, T2.out], by rw [L2.out, T2.out]⟩
              case measure => simp [intOf]; try omega
            · have hm' : ((k : Int) == 63) = false := by rw [beq_eq_false_iff_ne]; omega
              clear h63 hm
              go_wp2_with (first | (go_at_call 68; refine (add_any _ _ _ _ _).mono ?_; rintro e w' ⟨rfl, rfl⟩) | (go_at_call 31; refine (bit_any _ _ _ (by omega) (by omega)).mono ?_; rintro e w' ⟨rfl, rfl⟩))
              go_round
              case rel => exact ⟨k + 1, by omega, by go_num, by rw [A1.out, HA.out], by rw [A2.out, HA.out], by rw [H2.out, T2.out], by rw [L2.out, T2.out]⟩
              case measure => simp [intOf]; try omega
        · have HA := Lib.hid (SS_skip A b t k hlt hb hc)
          rw [decide_eq_false hc] at hbit
          clear hc
          go_wp2_with (first | (go_at_call 31; refine (bit_any _ _ _ (by omega) (by omega)).mono ?_; rintro e w' ⟨rfl, rfl⟩))
          go_round
          case rel => exact ⟨k + 1, by omega, by go_num, by rw [HA.out], by rw [HA.out], by rw [H2.out, T2.out], by rw [L2.out, T2.out]⟩
          case measure => simp [intOf]; try omega
      · have E : k = 64 := by omega
        subst E
        go_wp2
        go_ret
        exact ⟨rfl, rfl⟩
end Go.Proofs.YtoijhhacgafblabDoor
