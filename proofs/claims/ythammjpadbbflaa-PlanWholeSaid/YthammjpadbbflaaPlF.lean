/- Right of relocations; right: contracts. -/
import Derived.Test.YthammjpadbbflaaPlB
import Derived.Deep.QuietTactic
namespace Go.Proofs.Ythammjpadbbflaa
set_option linter.unusedVariables false
set_option linter.unusedSimpArgs false
open Go.Joins Go.ChangeShapes Go.WideShapes Go.ChangeAt Go.RowKit Go.Deep

def rOk (n : Nat) (r : Int × Int) : Bool := !(decide (r.2 < 0) || decide ((n : Int) ≤ r.2))
def relOk (x : Ob) : Bool := !decide ((60 : Int) < (x.rels.length : Int)) && x.rels.all (rOk x.syms.length)
def relsB (l : List Ob) : Bool := l.all relOk
theorem relsOk_of {l : List Ob} (h : relsB l = true) : RelsOk l := fun x hx => by
  have h1 := List.all_eq_true.1 h x hx
  unfold relOk at h1
  rw [Bool.and_eq_true] at h1
  refine ⟨by have := h1.1; simp at this; omega, fun r hr => ?_⟩
  have h2 := List.all_eq_true.1 h1.2 r hr
  unfold rOk at h2
  simp at h2
  omega
set_option maxHeartbeats 2000000 in
set_option maxRecDepth 100000 in
theorem r15_any (a : Option Addr) (c : Nat) (l : List Ob) (w : World) (hl : RdL w a l) (hm : l.length ≤ 9223372036854775807) :
    Calls Try.prog 39 #[.slice a l.length c] w fun e w' => e = .returned (.bool (relsB l)) ∧ Below w.heap.size w w' := by
  have HL := Lib.hid hl
  obtain ⟨r, hr⟩ : ∃ r, relsB l = r := ⟨_, rfl⟩
  rw [hr]
  obtain ⟨m, hm1⟩ : ∃ m, l.length = m := ⟨_, rfl⟩
  have HM := Lib.hid hm1
  have HR := Lib.hid (show (l.drop 0).all relOk = r by rw [List.drop_zero]; exact hr)
  rw [hm1] at hm ⊢
  clear hl hr hm1
  go_enter Try.func39, Try.ntmps39
  go_wp2_with fail
  go_loopw [3] (fun i wr => ∃ k : Nat, i = .int .i64 k ∧ k ≤ m ∧ Hid ((l.drop k).all relOk = r) ∧ Hid (Below w.heap.size w wr)) (fun i _ => m - (intOf i).toNat)
  case atStart => exact ⟨0, rfl, by omega, HR, Lib.hid (Below.refl _ _)⟩
  case round =>
    obtain ⟨k, rfl, hk, HK, HB⟩ := hrel
    by_cases hlt : k < m
    · have hkl : k < l.length := by rw [HM.out]; exact hlt
      obtain ⟨gl, fl, hgl, -, hob⟩ := (HL.out.below HB.out).at_ hkl
      subst hgl
      obtain ⟨sa, s2, ra, rc, x1, x2, x3, x4, x5⟩ := hob
      have had := all_drop relOk l k hkl
      obtain ⟨x, hx⟩ : ∃ x, l[k] = x := ⟨_, rfl⟩
      rw [hx] at x1 x2 x5
      simp only [hx] at had
      obtain ⟨ls, hls⟩ : ∃ ls, x.rels = ls := ⟨_, rfl⟩
      obtain ⟨u, hu⟩ : ∃ u, x.syms.length = u := ⟨_, rfl⟩
      have hkk := HK.out
      rw [had] at hkk
      rw [show relOk x = (!decide ((60 : Int) < (x.rels.length : Int)) && x.rels.all (rOk x.syms.length)) from rfl] at hkk
      rw [hls, hu] at hkk
      rw [hls] at x2 x5
      rw [hu] at x1
      obtain ⟨q, hq⟩ : ∃ q, ls.length = q := ⟨_, rfl⟩
      rw [hq] at x2 hkk
      have HQ := Lib.hid hq
      have HX5 := Lib.hid x5
      have HX1 := Lib.hid x1
      have HX2 := Lib.hid x2
      have kk0 : (0 : Int) ≤ (k : Int) := by omega
      have kk1 : (k : Int) < (m : Int) := by omega
      clear had hx hls x3 x4 x5 hkl HK hq hu
      cases h60 : decide ((60 : Int) < (q : Int)) with
      | true =>
        have he : false = r := by rw [← hkk, h60]; simp
        subst he
        clear hkk
        go_wp2_with fail
        go_ret
        exact ⟨rfl, HB.out⟩
      | false =>
        have HKK := Lib.hid (show ((ls.drop 0).all (rOk u) && (l.drop (k + 1)).all relOk) = r by rw [← hkk, h60, List.drop_zero]; simp)
        have hq60 : ¬ (60 : Int) < (q : Int) := of_decide_eq_false h60
        clear hkk
        go_wp2_with fail
        clear x1 x2
        go_loopw [4] (fun i w2 => ∃ j : Nat, i = .int .i64 j ∧ j ≤ q ∧ Hid (((ls.drop j).all (rOk u) && (l.drop (k + 1)).all relOk) = r) ∧ Hid (Below wr.heap.size wr w2)) (fun i _ => q - (intOf i).toNat)
        case atStart => exact ⟨0, rfl, by omega, HKK, Lib.hid (Below.refl _ _)⟩
        case round =>
          obtain ⟨j, rfl, hj, HJ, HB2⟩ := hrel
          have x1 := (HB2.out.cell (heap_lt_of_cell HX1.out)).trans HX1.out
          have x2 := (HB2.out.cell (heap_lt_of_cell HX2.out)).trans HX2.out
          by_cases hjq : j < q
          · have hjl : j < ls.length := by rw [HQ.out]; exact hjq
            obtain ⟨gs, fs, hgs, -, z0, z1⟩ := (HX5.out.below HB2.out).at_ hjl
            subst hgs
            have had := all_drop (rOk u) ls j hjl
            obtain ⟨s, hse⟩ : ∃ s, ls[j] = s := ⟨_, rfl⟩
            rw [hse] at z0 z1
            simp only [hse] at had
            have hkk := HJ.out
            rw [had] at hkk
            obtain ⟨ra1, ry⟩ := s
            simp only [] at z0 z1
            have jj0 : (0 : Int) ≤ (j : Int) := by omega
            have jj1 : (j : Int) < (q : Int) := by omega
            clear had hse hjl HJ
            cases c0 : decide (ry < 0) with
            | true =>
              have he : false = r := by rw [← hkk]; simp [rOk, c0]
              subst he
              clear hkk
              go_wp2_with fail
              go_ret
              exact ⟨rfl, bTrans HB.out HB2.out⟩
            | false =>
              cases c1 : decide ((u : Int) ≤ ry) with
              | true =>
                have he : false = r := by rw [← hkk]; simp [rOk, c0, c1]
                subst he
                clear hkk
                go_wp2_with fail
                go_ret
                exact ⟨rfl, bTrans HB.out HB2.out⟩
              | false =>
                have HK2 := Lib.hid (show ((ls.drop (j + 1)).all (rOk u) && (l.drop (k + 1)).all relOk) = r by rw [← hkk]; simp [rOk, c0, c1])
                clear hkk
                go_wp2_with fail
                go_roundw
                case rel => exact ⟨j + 1, by go_num, by omega, HK2, HB2⟩
                case measure => simp [intOf]; omega
          · have HK2 := Lib.hid (show (l.drop (k + 1)).all relOk = r by rw [← HJ.out, all_drop_end (rOk u) ls j (by rw [HQ.out]; omega)]; simp)
            go_wp2_with fail
            go_roundw
            case rel => exact ⟨k + 1, by go_num, by omega, HK2, Lib.hid (bTrans HB.out HB2.out)⟩
            case measure => simp [intOf]; omega
    · have he : true = r := by rw [← HK.out, all_drop_end _ _ _ (by rw [HM.out]; omega)]
      subst he
      clear HK
      go_wp2_with fail
      go_ret
      exact ⟨rfl, HB.out⟩
def rightP (l : List Ob) (z y : List Int) : Bool := shortB l && rightB z l.length && rightB y l.length && relsB l && decide ((y.length : Int) ≤ 10)
set_option maxHeartbeats 2000000 in
set_option maxRecDepth 100000 in
theorem right15_any (a b g : Option Addr) (c d f : Nat) (l : List Ob) (z y : List Int) (w : World) (hl : RdL w a l) (hm : l.length ≤ 9223372036854775807) (hs : Rd w b z.length (i64s z)) (hz : z.length ≤ 9223372036854775807) (ho : Rd w g y.length (i64s y)) (hy : y.length ≤ 9223372036854775807) :
    Calls Try.prog 24 #[.slice a l.length c, .slice b z.length d, .slice g y.length f] w fun e w' => e = .returned (.bool (rightP l z y)) ∧ Below w.heap.size w w' := by
  have HL := Lib.hid hl
  have HSH := Lib.hid (fun W (hW : RdL W a l) => short_any a c l W hW (by omega))
  have HRA := Lib.hid (fun W (hW : RdL W a l) => r15_any a c l W hW (by omega))
  have HRI := Lib.hid (fun W (hW : Below w.heap.size w W) => right_any b d z l.length W (hs.below hW) (by omega))
  have HRY := Lib.hid (fun W (hW : Below w.heap.size w W) => right_any g f y l.length W (ho.below hW) (by omega))
  obtain ⟨r, hr⟩ : ∃ r, rightP l z y = r := ⟨_, rfl⟩
  rw [hr]
  unfold rightP at hr
  obtain ⟨r1, h1⟩ : ∃ r, shortB l = r := ⟨_, rfl⟩
  obtain ⟨r2, h2⟩ : ∃ r, rightB z l.length = r := ⟨_, rfl⟩
  obtain ⟨r3, h3⟩ : ∃ r, rightB y l.length = r := ⟨_, rfl⟩
  obtain ⟨r4, h4⟩ : ∃ r, relsB l = r := ⟨_, rfl⟩
  rw [h1] at HSH hr
  rw [h2] at HRI hr
  rw [h3] at HRY hr
  rw [h4] at HRA hr
  generalize l.length = m at *
  generalize z.length = n at *
  generalize y.length = p at *
  clear hl hs ho h1 h2 h3 h4
  go_enter Try.func24, Try.ntmps24
  go_wp2_with fail
  refine (HSH.out _ HL.out).mono ?_; rintro e w1 ⟨rfl, hb1⟩
  have B1 := Lib.hid hb1
  clear hb1
  go_wp2_with fail
  refine (HRI.out _ B1.out).mono ?_; rintro e w2 ⟨rfl, rfl⟩
  go_wp2_with fail
  refine (HRY.out _ B1.out).mono ?_; rintro e w3 ⟨rfl, rfl⟩
  go_wp2_with fail
  refine (HRA.out _ (HL.out.below B1.out)).mono ?_; rintro e w4 ⟨rfl, hb4⟩
  have B4 := Lib.hid (bTrans B1.out hb4)
  clear hb4
  cases r1 with
  | false =>
    go_wp2_with fail
    go_ret
    exact ⟨by rw [← hr]; simp, B4.out⟩
  | true =>
    cases r2 with
    | false =>
      go_wp2_with fail
      go_ret
      exact ⟨by rw [← hr]; simp, B4.out⟩
    | true =>
      cases r3 with
      | false =>
        go_wp2_with fail
        go_ret
        exact ⟨by rw [← hr]; simp, B4.out⟩
      | true =>
        cases r4 with
        | false =>
          go_wp2_with fail
          go_ret
          exact ⟨by rw [← hr]; simp, B4.out⟩
        | true =>
          go_wp2_with fail
          go_ret
          exact ⟨by rw [← hr]; simp, B4.out⟩
end Go.Proofs.Ythammjpadbbflaa
