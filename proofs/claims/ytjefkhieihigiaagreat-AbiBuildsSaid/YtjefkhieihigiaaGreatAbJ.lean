/- Whether a capability may do what no program may. -/
import Derived.Test.YtjefkhieihigiaaGreatAbI
namespace Go.Proofs.YtjefkhieihigiaaGreat
set_option linter.unusedVariables false
set_option linter.unusedSimpArgs false
open Go.Joins Go.ChangeShapes Go.WideShapes Go.ChangeAt Go.RowKit Go.Deep

theorem capsAt {W : World} {a : Option Addr} {l : List Cp} (h : Rd W a (l.length * 6) (capsV l)) {k : Nat} (hk : k < l.length) : ∃ g off, a = some ⟨g, off, none⟩ ∧ (W.cell? ⟨g, off + k * 6, none⟩ = some (.int .u64 l[k].b) ∧ W.cell? ⟨g, off + k * 6 + 1, none⟩ = some (.int .u64 l[k].t) ∧ W.cell? ⟨g, off + k * 6 + 2, none⟩ = some (.int .u64 l[k].a) ∧ W.cell? ⟨g, off + k * 6 + 3, none⟩ = some (.int .i64 l[k].p) ∧ W.cell? ⟨g, off + k * 6 + 4, none⟩ = some (.int .i64 l[k].y) ∧ W.cell? ⟨g, off + k * 6 + 5, none⟩ = some (.bool l[k].g)) := by
  obtain ⟨b, off, e, hl, g⟩ := rdE_at capC_len (by decide) h hk
  exact ⟨b, off, e, g 0 (by decide), g 1 (by decide), g 2 (by decide), g 3 (by decide), g 4 (by decide), g 5 (by decide)⟩
theorem much_any (c : Cp) (w : World) :
    Calls Tryz.prog 53 #[.agg #[.int .u64 c.b, .int .u64 c.t, .int .u64 c.a, .int .i64 c.p, .int .i64 c.y, .bool c.g]] w fun e w' => e = .returned (.bool (muchB c)) ∧ Below w.heap.size w w' := by
  obtain ⟨cb, ct, ca, cp, cy, cg⟩ := c
  unfold muchB
  simp only []
  go_enter Tryz.func53, Tryz.ntmps53
  go_wp2_with fail
  all_goals
    go_ret
    refine ⟨congrArg (fun q => Ending.returned (.bool q)) ?_, bAlloc (Below.refl _ _) _⟩
    simp_all
set_option maxHeartbeats 1000000 in
theorem idxC_any (a : Option Addr) (c : Nat) (l : List Cp) (w : World) (hr : Rd w a (l.length * 6) (capsV l)) (hl : l.length < 9223372036854775807) :
    Calls Tryz.prog 68 #[.slice a l.length c, .func (.func 53) #[] #[]] w fun e w' => ∃ r : Int, e = .returned (.int .i64 r) ∧ decide (0 ≤ r) = l.any muchB ∧ Below w.heap.size w w' := by
  have HRD := Lib.hid hr
  obtain ⟨n, hn⟩ : ∃ n, l.length = n := ⟨_, rfl⟩
  have HN := Lib.hid hn
  rw [hn] at hl ⊢
  have HL := Lib.hid hl
  clear hr hl hn
  go_enter Tryz.func68, Tryz.ntmps68
  go_wp2_with fail
  go_loopw [8] (fun i wr => ∃ k : Nat, i = .int .i64 k ∧ k ≤ n ∧ Hid (∀ j (h : j < l.length), j < k → muchB l[j] = false) ∧ Hid (Below w.heap.size w wr)) (fun i _ => n - (intOf i).toNat)
  case atStart => exact ⟨0, rfl, by omega, Lib.hid (fun j h h0 => absurd h0 (by omega)), Lib.hid (Below.refl _ _)⟩
  case round =>
    obtain ⟨k, rfl, hk, HQ, HB⟩ := hrel
    have hl := HL.out
    by_cases hlt : k < n
    · have hkl : k < l.length := by rw [HN.out]; exact hlt
      obtain ⟨g, off, hge, c0, c1, c2, c3, c4, c5⟩ := capsAt (HRD.out.below HB.out) hkl
      subst hge
      have HC := Lib.hid (much_any l[k] wr)
      have hst : muchB l[k] = false → ∀ j (h : j < l.length), j < k + 1 → muchB l[j] = false := fun h j hj hj2 => by
        by_cases e : j = k
        · subst e; exact h
        · exact HQ.out j hj (by omega)
      have hhit : muchB l[k] = true → l.any muchB = true := fun h => by
        rw [List.any_eq_true]; exact ⟨l[k], List.getElem_mem hkl, h⟩
      obtain ⟨x, hx⟩ : ∃ x, l[k] = x := ⟨_, rfl⟩
      rw [hx] at c0 c1 c2 c3 c4 c5 HC hst hhit
      obtain ⟨q, hq⟩ : ∃ q, muchB x = q := ⟨_, rfl⟩
      rw [hq] at HC hst hhit
      have HST := Lib.hid hst
      have HHI := Lib.hid hhit
      have kk0 : (0 : Int) ≤ (k : Int) := by omega
      have kk1 : (k : Int) < (n : Int) := by omega
      clear hst hhit hkl hx hq
      obtain ⟨xb, xt, xa, xp, xy, xg⟩ := x
      simp only [] at c0 c1 c2 c3 c4 c5 HC
      cases q with
      | true =>
        have HA := Lib.hid (HHI.out rfl)
        go_wp2_with (go_at_call 53; refine HC.out.mono ?_; rintro e w' ⟨rfl, hb'⟩; have HB' := Lib.hid (bTrans HB.out hb'); clear hb')
        go_ret
        exact ⟨_, rfl, by rw [HA.out]; exact decide_eq_true kk0, HB'.out⟩
      | false =>
        have HN1 := Lib.hid (HST.out rfl)
        go_wp2_with (go_at_call 53; refine HC.out.mono ?_; rintro e w' ⟨rfl, hb'⟩; have HB' := Lib.hid (bTrans HB.out hb'); clear hb')
        go_roundw
        case rel => exact ⟨k + 1, by go_num, by omega, HN1, HB'⟩
        case measure => simp [intOf]; omega
    · have hk2 : k = n := by omega
      subst hk2
      have ha : l.any muchB = false := by
        rw [Bool.eq_false_iff, Ne, List.any_eq_true]
        rintro ⟨x, hx, e⟩
        obtain ⟨j, hj, rfl⟩ := List.getElem_of_mem hx
        rw [HQ.out j hj (by rw [HN.out] at hj; exact hj)] at e
        cases e
      have HA := Lib.hid ha
      clear ha
      go_wp2_with fail
      go_ret
      exact ⟨_, rfl, by rw [HA.out]; rfl, HB.out⟩
theorem hasC_any (a : Option Addr) (c : Nat) (l : List Cp) (w : World) (hr : Rd w a (l.length * 6) (capsV l)) (hl : l.length < 9223372036854775807) :
    Calls Tryz.prog 52 #[.slice a l.length c, .func (.func 53) #[] #[]] w fun e w' => e = .returned (.bool (l.any muchB)) ∧ Below w.heap.size w w' := by
  have HI := Lib.hid (idxC_any a c l w hr hl)
  obtain ⟨z, hz⟩ : ∃ z, l.any muchB = z := ⟨_, rfl⟩
  rw [hz] at HI ⊢
  clear hr hl hz
  go_enter Tryz.func52, Tryz.ntmps52
  go_wp2_with (go_at_call 68; refine HI.out.mono ?_; rintro e w1 ⟨r, rfl, hd, hb⟩; have HB := Lib.hid hb; clear hb)
  go_ret
  exact ⟨by rw [← hd]; rfl, HB.out⟩
theorem auxFits_any (a : Option Addr) (c : Nat) (l : List Cp) (w : World) (hr : Rd w a (l.length * 6) (capsV l)) (hl : l.length < 9223372036854775807) :
    Calls Tryz.prog 30 #[.slice a l.length c] w fun e w' => e = .returned (.bool (auxB l)) ∧ Below w.heap.size w w' := by
  have HH := Lib.hid (hasC_any a c l w hr hl)
  have ht : auxB l = (decide (l.length ≤ 8) && !(l.any muchB)) := by
    rfl
  rw [ht]
  obtain ⟨z, hz⟩ : ∃ z, l.any muchB = z := ⟨_, rfl⟩
  rw [hz] at HH ⊢
  obtain ⟨n, hn⟩ : ∃ n, l.length = n := ⟨_, rfl⟩
  rw [hn] at HH ⊢
  clear hr hl hz ht hn
  by_cases h : n ≤ 8
  · have hI : (n : Int) ≤ 8 := by omega
    have d1 : decide ((n : Int) ≤ 8) = true := decide_eq_true hI
    have d2 : decide (n ≤ 8) = true := decide_eq_true h
    rw [d2, Bool.true_and]
    go_enter Tryz.func30, Tryz.ntmps30
    go_wp2_with (go_at_call 52; refine HH.out.mono ?_; rintro e w1 ⟨rfl, hb⟩; have HB1 := Lib.hid hb; clear hb)
    go_ret
    exact ⟨rfl, HB1.out⟩
  · have hI : ¬ (n : Int) ≤ 8 := by omega
    have d1 : decide ((n : Int) ≤ 8) = false := decide_eq_false hI
    have d2 : decide (n ≤ 8) = false := decide_eq_false h
    rw [d2, Bool.false_and]
    go_enter Tryz.func30, Tryz.ntmps30
    go_wp2_with fail
    go_ret
    exact ⟨rfl, Below.refl _ _⟩
end Go.Proofs.YtjefkhieihigiaaGreat
