/- LookupBinds: its walk. -/
import Derived.Test.YthammjpadbbflaaLkP
namespace Go.Proofs.Ythammjpadbbflaa
set_option linter.unusedVariables false
set_option linter.unusedSimpArgs false
open Go.Joins Go.ChangeShapes Go.WideShapes Go.ChangeAt Go.RowKit Go.Deep Go.Shelf

theorem right_nat {z : List Int} {n : Nat} (h : rightB z n = true) : ∃ sc : List Nat, z = sc.map (fun (k : Nat) => (k : Int)) ∧ (∀ k ∈ sc, k < n) ∧ sc.length ≤ 40 := by
  unfold rightB at h
  rw [Bool.and_eq_true] at h
  have h1 := List.all_eq_true.1 h.1
  have h2 : z.length ≤ 40 := by have := h.2; simp at this; omega
  have h3 : ∀ x ∈ z, 0 ≤ x ∧ x < n := fun x hx => by
    have := h1 x hx
    simp at this
    omega
  refine ⟨z.map Int.toNat, ?_, fun k hk => ?_, by simpa using h2⟩
  · rw [List.map_map]
    refine (List.map_id z).symm.trans (List.map_congr_left fun x hx => ?_)
    have := (h3 x hx).1
    show x = ((x.toNat : Nat) : Int)
    omega
  · obtain ⟨x, hx, rfl⟩ := List.mem_map.1 hk
    have := h3 x hx
    omega
theorem i64s_ord (sc : List Nat) : i64s (sc.map (fun (k : Nat) => (k : Int))) = ordV sc := by simp [i64s, ordV]
set_option maxHeartbeats 4000000 in
set_option maxRecDepth 100000 in
theorem LookupBinds_walk (a : Option Addr) (l : List Ob) (c : Nat) (b : Option Addr) (z : List Int) (d : Nat) (obj sym : Int) (w : World) (hl : RdL w a l) (hm : l.length ≤ maxLen) (hs : Rd w b z.length (i64s z)) (hz : z.length ≤ maxLen) :
    Calls Try.prog 4 #[.slice a l.length c, .slice b z.length d, .int .i64 obj, .int .i64 sym] w fun e w' => e = .returned (.bool true) ∧ Below w.heap.size w w' := by
  unfold maxLen at hm hz
  have HSH := Lib.hid (fun W (hW : RdL W a l) => short_any a c l W hW (by omega))
  have HRI := Lib.hid (fun W (hW : Rd W b z.length (i64s z)) => right_any b d z l.length W hW (by omega))
  have HL := Lib.hid hl
  have HS := Lib.hid hs
  obtain ⟨sh, hsh⟩ : ∃ r, shortB l = r := ⟨_, rfl⟩
  obtain ⟨ri, hri⟩ : ∃ r, rightB z l.length = r := ⟨_, rfl⟩
  rw [hsh] at HSH
  rw [hri] at HRI
  have HSE := Lib.hid hsh
  have HRE := Lib.hid hri
  obtain ⟨m, hm1⟩ : ∃ m, l.length = m := ⟨_, rfl⟩
  obtain ⟨n, hn1⟩ : ∃ n, z.length = n := ⟨_, rfl⟩
  rw [hm1] at hm HSH HRI HRE ⊢
  rw [hn1] at hz HRI HS ⊢
  have HM := Lib.hid hm1
  have HN := Lib.hid hn1
  clear hl hs hsh hri hm1 hn1
  go_enter Try.func4, Try.ntmps4
  go_wp2_with fail
  refine (awake_any _).mono ?_; rintro e w1 ⟨rfl, hb1⟩
  have B1 := Lib.hid hb1
  clear hb1
  go_wp2_with fail
  refine (HSH.out _ (HL.out.below B1.out)).mono ?_; rintro e w2 ⟨rfl, hb2⟩
  have B1 := Lib.hid (bTrans B1.out hb2)
  clear hb2
  go_wp2_with fail
  refine (HRI.out _ (HS.out.below B1.out)).mono ?_; rintro e w3 ⟨rfl, rfl⟩
  cases sh with
  | false =>
    go_wp2_with fail
    go_ret
    exact ⟨rfl, B1.out⟩
  | true =>
    cases ri with
    | false =>
      go_wp2_with fail
      go_ret
      exact ⟨rfl, B1.out⟩
    | true =>
      obtain ⟨sc, hzs, hsc, h40⟩ := right_nat HRE.out
      subst hzs
      have hnn : sc.length = n := by have := HN.out; simpa using this
      rw [i64s_ord] at HS
      rw [← HM.out] at hsc
      have HFW := Lib.hid (few_of_short HSE.out)
      have HSC := Lib.hid hsc
      have HNN := Lib.hid hnn
      rw [hnn] at h40
      clear hsc hnn HSH HRI
      rcases Int.lt_or_le obj 0 with h1 | h1
      · have d1 : decide (obj < 0) = true := decide_eq_true h1
        clear h1
        go_wp2_with fail
        go_ret
        exact ⟨rfl, B1.out⟩
      obtain ⟨o, rfl⟩ := Int.eq_ofNat_of_zero_le h1
      have d1 : decide ((o : Int) < 0) = false := decide_eq_false (by omega)
      rcases (Nat.lt_or_ge o m).symm with h2 | h2
      · have d2 : decide ((m : Int) ≤ (o : Int)) = true := decide_eq_true (by omega)
        have d2' : (m : Int) ≤ (o : Int) := by omega
        clear h1
        go_wp2_with fail
        go_ret
        exact ⟨rfl, B1.out⟩
      have d2 : decide ((m : Int) ≤ (o : Int)) = false := decide_eq_false (by omega)
      have d2' : ¬ (m : Int) ≤ (o : Int) := by omega
      rcases Int.lt_or_le sym 0 with h3 | h3
      · have d3 : decide (sym < 0) = true := decide_eq_true h3
        clear h3 h1
        go_wp2_with fail
        go_ret
        exact ⟨rfl, B1.out⟩
      obtain ⟨y, rfl⟩ := Int.eq_ofNat_of_zero_le h3
      have d3 : decide ((y : Int) < 0) = false := decide_eq_false (by omega)
      have hol : o < l.length := by rw [HM.out]; exact h2
      obtain ⟨gl, fl, sa, s2, hgl, x1, x3⟩ := HL.out.syms B1.out hol
      subst hgl
      obtain ⟨p, hp⟩ : ∃ p, (symsAt l o).length = p := ⟨_, rfl⟩
      rw [hp] at x1
      have oo0 : (0 : Int) ≤ (o : Int) := by omega
      have oo1 : (o : Int) < (m : Int) := by omega
      rcases (Nat.lt_or_ge y p).symm with h4 | h4
      · have d4 : decide ((p : Int) ≤ (y : Int)) = true := decide_eq_true (by omega)
        have d4' : (p : Int) ≤ (y : Int) := by omega
        clear h1 h3
        go_wp2_with fail
        go_ret
        exact ⟨rfl, B1.out⟩
      have d4 : decide ((p : Int) ≤ (y : Int)) = false := decide_eq_false (by omega)
      have d4' : ¬ (p : Int) ≤ (y : Int) := by omega
      have hyl : y < l[o].syms.length := by rw [← symsAt_eq hol, hp]; exact h4
      have hs0 := HS.out
      rw [← HNN.out] at hs0
      have HBI := fun W (hW : Below w.heap.size w W) => bind_any (some ⟨gl, fl, none⟩) b c d l sc o y W (HL.out.below hW) (hs0.below hW) HSC.out HFW.out.1 (by rw [HNN.out]; omega) hol hyl
      have HRB := fun W (hW : Below w.heap.size w W) => rbind_any (some ⟨gl, fl, none⟩) b c d l sc o y W (HL.out.below hW) (hs0.below hW) HSC.out HFW.out.1 (by rw [HNN.out]; omega) hol hyl
      obtain ⟨r1, r2, r3, hr⟩ : ∃ r1 r2 r3, bindS l sc o y l[o].syms[y] = (r1, r2, r3) := ⟨_, _, _, rfl⟩
      rw [hr, HM.out, HNN.out] at HBI HRB
      have HBI := Lib.hid HBI
      have HRB := Lib.hid HRB
      clear hs0 hr hyl hp h1 h3
      go_wp2_with fail
      refine (HBI.out _ B1.out).mono ?_; rintro e w4 ⟨rfl, hb4⟩
      have B1 := Lib.hid (bTrans B1.out hb4)
      clear hb4
      go_wp2_with fail
      refine (HRB.out _ B1.out).mono ?_; rintro e w5 ⟨rfl, hb5⟩
      have B1 := Lib.hid (bTrans B1.out hb5)
      have e1 : (r1 == r1) = true := beq_self_eq_true _
      have e2 : (r2 == r2) = true := beq_self_eq_true _
      have e3 : (r3 == r3) = true := beq_self_eq_true _
      clear hb5
      go_wp2_with fail
      go_ret
      exact ⟨rfl, B1.out⟩
end Go.Proofs.Ythammjpadbbflaa
