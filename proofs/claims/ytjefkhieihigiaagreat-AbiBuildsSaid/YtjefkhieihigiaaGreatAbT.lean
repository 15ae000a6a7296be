/- The law's own: capabilities that may be. -/
import Derived.Test.YtjefkhieihigiaaGreatAbV
import Derived.Test.YtjefkhieihigiaaGreatTa5
namespace Go.Proofs.YtjefkhieihigiaaGreat
set_option linter.unusedVariables false
set_option linter.unusedSimpArgs false
open Go.Joins Go.ChangeShapes Go.WideShapes Go.ChangeAt Go.RowKit Go.Deep

set_option maxRecDepth 100000 in
set_option maxHeartbeats 4000000 in
theorem rights_any (a : Option Addr) (c : Nat) (l : List Cp) (w : World) (hr : Rd w a (l.length * 6) (capsV l)) (hl : l.length < 9223372036854775808) :
    Calls Tryz.prog 5 #[.slice a l.length c] w fun e w' => e = .returned (.bool (l.all rightB && decide (l.length ≤ 20))) ∧ Below w.heap.size w w' := by
  have HRD := Lib.hid hr
  obtain ⟨n, hn⟩ : ∃ n, l.length = n := ⟨_, rfl⟩
  have HN := Lib.hid hn
  rw [hn] at hl ⊢
  have HL := Lib.hid hl
  clear hr hl hn
  go_enter Tryz.func5, Tryz.ntmps5
  go_wp2_with fail
  go_loopw [2, 3] (fun is i wr => ∃ k : Nat, i = .int .i64 k ∧ k ≤ n ∧ Hid (∀ j (h : j < l.length), j < k → rightB l[j] = true) ∧ Hid (Below w.heap.size w wr)) (fun _ i _ => n - (intOf i).toNat)
  case atStart => exact ⟨0, rfl, by omega, Lib.hid (fun j h h0 => absurd h0 (by omega)), Lib.hid (Below.refl _ _)⟩
  case round =>
    obtain ⟨k, rfl, hk, HQ, HB⟩ := hrel
    have hl := HL.out
    by_cases hlt : k < n
    · have hkl : k < l.length := by rw [HN.out]; exact hlt
      obtain ⟨g, off, hge, c0, c1, c2, c3, c4, c5⟩ := capsAt (HRD.out.below HB.out) hkl
      subst hge
      have HC := Lib.hid (fun wx => right_any l[k] wx)
      have hst : rightB l[k] = true → ∀ j (h : j < l.length), j < k + 1 → rightB l[j] = true := fun h j hj hj2 => by
        by_cases e : j = k
        · subst e; exact h
        · exact HQ.out j hj (by omega)
      have hhit : rightB l[k] = false → l.all rightB = false := fun h => by
        rw [Bool.eq_false_iff, Ne, List.all_eq_true]
        intro h2
        have := h2 l[k] (List.getElem_mem hkl)
        rw [h] at this
        cases this
      obtain ⟨x, hx⟩ : ∃ x, l[k] = x := ⟨_, rfl⟩
      rw [hx] at c0 c1 c2 c3 c4 c5 HC hst hhit
      obtain ⟨q, hq⟩ : ∃ q, rightB x = q := ⟨_, rfl⟩
      rw [hq] at HC hst hhit
      have HST := Lib.hid hst
      have HHI := Lib.hid hhit
      have kk0 : (0 : Int) ≤ (k : Int) := by omega
      have kk1 : (k : Int) < (n : Int) := by omega
      clear hst hhit hkl hx hq
      obtain ⟨xb, xt, xa, xp, xy, xg⟩ := x
      rw [show (capC ⟨xb, xt, xa, xp, xy, xg⟩).toArray = #[.int .u64 xb, .int .u64 xt, .int .u64 xa, .int .i64 xp, .int .i64 xy, .bool xg] from rfl] at HC
      simp only [] at c0 c1 c2 c3 c4 c5
      cases q with
      | false =>
        have HA := Lib.hid (HHI.out rfl)
        go_wp2_with (go_at_call 21; refine (HC.out _).mono ?_; rintro e w' ⟨rfl, hb'⟩; have HB' := Lib.hid (bTrans HB.out hb'); clear hb')
        go_ret
        exact ⟨by rw [HA.out]; rfl, HB'.out⟩
      | true =>
        have HN1 := Lib.hid (HST.out rfl)
        go_wp2_with (go_at_call 21; refine (HC.out _).mono ?_; rintro e w' ⟨rfl, hb'⟩; have HB' := Lib.hid (bTrans HB.out hb'); clear hb')
        go_roundw
        case rel => exact ⟨k + 1, by go_num, by omega, HN1, HB'⟩
        case measure => simp [intOf]; omega
    · have hk2 : k = n := by omega
      subst hk2
      have ha : l.all rightB = true := by
        rw [List.all_eq_true]
        intro x hx
        obtain ⟨j, hj, rfl⟩ := List.getElem_of_mem hx
        exact HQ.out j hj (by rw [HN.out] at hj; exact hj)
      have HA := Lib.hid ha
      clear ha
      by_cases h20 : k ≤ 20
      · have d1 : decide ((k : Int) ≤ 20) = true := decide_eq_true (by omega)
        have d2 : decide (k ≤ 20) = true := decide_eq_true h20
        clear h20
        go_wp2_with fail
        go_ret
        exact ⟨by rw [HA.out, d2]; rfl, HB.out⟩
      · have d1 : decide ((k : Int) ≤ 20) = false := decide_eq_false (by omega)
        have d2 : decide (k ≤ 20) = false := decide_eq_false h20
        clear h20
        go_wp2_with fail
        go_ret
        exact ⟨by rw [HA.out, d2]; rfl, HB.out⟩
end Go.Proofs.YtjefkhieihigiaaGreat
