/- The document's Right. -/
import Derived.Test.YtjefkhieihigiaaGreatAdT
import Derived.Test.YtjefkhieihigiaaGreatAbJ
namespace Go.Proofs.YtjefkhieihigiaaGreat
set_option linter.unusedVariables false
set_option linter.unusedSimpArgs false
open Go.Joins Go.ChangeShapes Go.WideShapes Go.ChangeAt Go.RowKit Go.Deep

theorem perm_doc : ∀ n : Fin 256, (decide (0 < bits .and .i64 ((n.val : Nat) : Int) 96) || (bits .and .i64 ((n.val : Nat) : Int) 6 == 6)) = ((bits .and .i64 ((n.val : Nat) : Int) 96 != 0) || ((bits .and .i64 ((n.val : Nat) : Int) 2 != 0) && (bits .and .i64 ((n.val : Nat) : Int) 4 != 0))) := by
  decide +kernel
theorem much_doc {c : Cp} (h : 0 ≤ c.p ∧ c.p < 256) : (c.g && (decide (0 < bits .and .i64 c.p 96) || (bits .and .i64 c.p 6 == 6))) = muchB c := by
  unfold muchB
  obtain ⟨n, hn⟩ : ∃ n : Nat, c.p = (n : Int) := ⟨c.p.toNat, by have := h.1; omega⟩
  have h1 : n < 256 := by have := h.2; omega
  rw [hn]
  have := perm_doc ⟨n, h1⟩
  simp only [] at this
  rw [this]
set_option maxRecDepth 100000 in
set_option maxHeartbeats 4000000 in
theorem rright_any (a1 a2 a3 : Option Addr) (c1 c2 c3 : Nat) (l1 l2 : List (List UInt8)) (k : List Cp) (w : World) (h1 : Rd w a1 l1.length (strs l1)) (h2 : Rd w a2 l2.length (strs l2)) (h3 : Rd w a3 (k.length * 6) (capsV k)) (m1 : l1.length < 9223372036854775808) (m2 : l2.length < 9223372036854775808) (m3 : k.length < 9223372036854775807) (f1 : ∀ s ∈ l1, s.length ≤ maxLen) (f2 : ∀ s ∈ l2, s.length ≤ maxLen) (f3 : ∀ c ∈ k, 0 ≤ c.p ∧ c.p < 256) :
    Calls Tryz.prog 35 #[.slice a1 l1.length c1, .slice a2 l2.length c2, .slice a3 k.length c3] w fun e w' => e = .returned (.bool (textsB l1 && (textsB l2 && auxB k))) ∧ Below w.heap.size w w' := by
  have H1 := Lib.hid (dtexts_any a1 c1 l1 w h1 m1 f1)
  have H2 := Lib.hid (dtexts_any a2 c2 l2 w h2 m2 f2)
  have HRD := Lib.hid h3
  have HF := Lib.hid f3
  obtain ⟨n, hn⟩ : ∃ n, k.length = n := ⟨_, rfl⟩
  have HN := Lib.hid hn
  have hx : auxB k = (decide (n ≤ 8) && !(k.any muchB)) := by rw [← hn]; rfl
  rw [hn] at m3 ⊢
  rw [hx]
  generalize textsB l1 = t1 at *
  generalize textsB l2 = t2 at *
  generalize l1.length = n1 at *
  generalize l2.length = n2 at *
  have HM := Lib.hid m3
  clear h1 h2 h3 m1 m2 m3 f1 f2 f3 hn hx
  go_enter Tryz.func35, Tryz.ntmps35
  go_wp2_with fail
  refine H1.out.mono ?_; rintro e w1 ⟨rfl, rfl⟩
  go_wp2_with fail
  refine H2.out.mono ?_; rintro e w1 ⟨rfl, rfl⟩
  clear H1 H2
  go_wp2_with fail
  go_loopw [9, 10] (fun i kk wr => ∃ q : Nat, i = .int .i64 (q : Int) ∧ q ≤ n ∧ Hid (∀ j (h : j < k.length), j < q → muchB k[j] = false) ∧ Hid (Below w.heap.size w wr)) (fun i _ _ => n - (intOf i).toNat)
  case atStart => exact ⟨0, rfl, Nat.zero_le _, Lib.hid (fun j h h0 => absurd h0 (by omega)), Lib.hid (Below.refl _ _)⟩
  case round =>
    obtain ⟨q, rfl, hq, HQ, HB⟩ := hrel
    have hm := HM.out
    by_cases hlt : q < n
    · have hkl : q < k.length := by rw [HN.out]; exact hlt
      obtain ⟨g, off, hge, c0, c1, c2, c3, c4, c5⟩ := capsAt (HRD.out.below HB.out) hkl
      subst hge
      have hst : muchB k[q] = false → ∀ j (h : j < k.length), j < q + 1 → muchB k[j] = false := fun h j hj hj2 => by
        by_cases e : j = q
        · subst e; exact h
        · exact HQ.out j hj (by omega)
      have hhit : muchB k[q] = true → k.any muchB = true := fun h => by
        rw [List.any_eq_true]; exact ⟨k[q], List.getElem_mem hkl, h⟩
      have hmd := much_doc (HF.out k[q] (List.getElem_mem hkl))
      obtain ⟨x, hx⟩ : ∃ x, k[q] = x := ⟨_, rfl⟩
      rw [hx] at c0 c1 c2 c3 c4 c5 hst hhit hmd
      rw [← hmd] at hst hhit
      obtain ⟨xb, xt, xa, xp, xy, xg⟩ := x
      simp only [] at c0 c1 c2 c3 c4 c5 hst hhit
      obtain ⟨z1, hz1⟩ : ∃ z, bits .and .i64 xp 96 = z := ⟨_, rfl⟩
      obtain ⟨z2, hz2⟩ : ∃ z, bits .and .i64 xp 6 = z := ⟨_, rfl⟩
      rw [hz1, hz2] at hst hhit
      have kk0 : (0 : Int) ≤ (q : Int) := by omega
      have kk1 : (q : Int) < (n : Int) := by omega
      have hd1 : decide ((q : Int) < (n : Int)) = true := decide_eq_true kk1
      obtain ⟨r, hr⟩ : ∃ r, (xg && (decide (0 < z1) || (z2 == 6))) = r := ⟨_, rfl⟩
      rw [hr] at hst hhit
      have HST := Lib.hid hst
      have HHI := Lib.hid hhit
      clear hst hhit hkl hx hmd
      by_cases hg1 : 0 < z1
      · have e1 : decide (0 < z1) = true := decide_eq_true hg1
        rw [e1] at hr
        cases xg with
        | true =>
          obtain rfl : true = r := by simpa using hr
          have HA := Lib.hid (HHI.out rfl)
          clear hr
          go_wp2_with fail
          go_ret
          exact ⟨by rw [HA.out]; simp, HB.out⟩
        | false =>
          obtain rfl : false = r := by simpa using hr
          have HA := Lib.hid (HST.out rfl)
          clear hr
          go_wp2_with fail
          go_roundw
          case rel => exact ⟨q + 1, by go_num, by omega, HA, HB⟩
          case measure => simp [intOf]; omega
      · have e1 : decide (0 < z1) = false := decide_eq_false hg1
        rw [e1] at hr
        by_cases hg2 : z2 = 6
        · have e2 : (z2 == 6) = true := by simp [hg2]
          rw [e2] at hr
          cases xg with
          | true =>
            obtain rfl : true = r := by simpa using hr
            have HA := Lib.hid (HHI.out rfl)
            clear hr
            go_wp2_with fail
            go_ret
            exact ⟨by rw [HA.out]; simp, HB.out⟩
          | false =>
            obtain rfl : false = r := by simpa using hr
            have HA := Lib.hid (HST.out rfl)
            clear hr
            go_wp2_with fail
            go_roundw
            case rel => exact ⟨q + 1, by go_num, by omega, HA, HB⟩
            case measure => simp [intOf]; omega
        · have e2 : (z2 == 6) = false := by simp [hg2]
          rw [e2] at hr
          obtain rfl : false = r := by simpa using hr
          have HA := Lib.hid (HST.out rfl)
          clear hr
          cases xg <;> (go_wp2_with fail) <;> (go_roundw) <;> first | exact ⟨q + 1, by go_num, by omega, HA, HB⟩ | (simp [intOf]; omega)
    · obtain rfl : q = n := by omega
      have ha : k.any muchB = false := by
        rw [Bool.eq_false_iff, Ne, List.any_eq_true]
        rintro ⟨x, hx, e⟩
        obtain ⟨j, hj, rfl⟩ := List.getElem_of_mem hx
        rw [HQ.out j hj (by rw [HN.out] at hj; exact hj)] at e
        cases e
      have HA := Lib.hid ha
      have hd1 : decide ((q : Int) < (q : Int)) = false := by simp
      have hd2 : decide (q < q) = false := by simp
      by_cases h8 : q ≤ 8
      · have d1 : decide ((q : Int) ≤ 8) = true := decide_eq_true (by omega)
        have d2 : decide (q ≤ 8) = true := decide_eq_true h8
        clear ha
        cases t1 <;> cases t2 <;> (go_wp2_with fail) <;> go_ret <;> exact ⟨by rw [HA.out, d2]; rfl, HB.out⟩
      · have d1 : decide ((q : Int) ≤ 8) = false := decide_eq_false (by omega)
        have d2 : decide (q ≤ 8) = false := decide_eq_false h8
        clear ha
        cases t1 <;> cases t2 <;> (go_wp2_with fail) <;> go_ret <;> exact ⟨by rw [d2]; rfl, HB.out⟩
end Go.Proofs.YtjefkhieihigiaaGreat
