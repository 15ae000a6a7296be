/- The document's Short, Right: contracts. -/
import Derived.Test.YtfneikphgmjfbaaGrF
namespace Go.Proofs.Ytfneikphgmjfbaa
set_option linter.unusedVariables false
set_option linter.unusedSimpArgs false
open Go.Joins Go.ChangeShapes Go.WideShapes Go.ChangeAt Go.RowKit

def shortB (l : List Obj) (most : Nat) : Bool := decide (l.length ≤ most) && l.all fun o => decide (o.needs.length ≤ 10)
theorem short_any (a : Option Addr) (l : List Obj) (c most : Nat) (w : World) (hl : RdO w a l) (hm : l.length ≤ maxLen) (hmost : most ≤ 1000000) (hnd : ∀ o ∈ l, o.needs.length ≤ maxLen) :
    Calls Try.prog 10 #[.slice a l.length c, .int .i64 (most : Int)] w fun e w' => e = .returned (.bool (shortB l most)) ∧ w = w' := by
  unfold maxLen at hm hnd
  have HL := Lib.hid hl
  have HND := Lib.hid hnd
  clear hl hnd
  by_cases h : l.length ≤ most
  · have e : shortB l most = l.all fun o => decide (o.needs.length ≤ 10) := by unfold shortB; rw [decide_eq_true h, Bool.true_and]
    obtain ⟨r, hr⟩ : ∃ r, (l.all fun o => decide (o.needs.length ≤ 10)) = r := ⟨_, rfl⟩
    rw [e, hr]
    have HR := Lib.hid hr
    clear e hr
    obtain ⟨m, hlm⟩ : ∃ m, l.length = m := ⟨_, rfl⟩
    rw [hlm] at hm h ⊢
    have HLM := Lib.hid hlm
    have d1 : decide ((most : Int) < (m : Int)) = false := decide_eq_false (by omega)
    clear hlm
    go_enter Try.func10, Try.ntmps10
    go_wp2_with fail
    go_loop [5] (fun i => ∃ k : Nat, k ≤ m ∧ i = .int .i64 k ∧ Hid (((l.drop k).all fun o => decide (o.needs.length ≤ 10)) = r)) (fun i => m - (intOf i).toNat)
    case atStart => exact ⟨0, by omega, rfl, by simpa using HR⟩
    case round =>
      obtain ⟨k, hk, rfl, HK⟩ := hrel
      by_cases hlt : k < m
      · have hkl : k < l.length := by rw [HLM.out]; exact hlt
        obtain ⟨B, o, rfl, hc⟩ := HL.out.at_ hkl
        have hd := List.drop_eq_getElem_cons hkl
        have hk2 := HK.out
        rw [hd, List.all_cons] at hk2
        have hn := HND.out _ (List.getElem_mem hkl)
        generalize l[k] = x at hc hk2 hn
        obtain ⟨-, h1, -⟩ := hc
        have HK2 := Lib.hid hk2
        clear hd hk2
        by_cases hx : x.needs.length ≤ 10
        · have d : decide ((10 : Int) < (x.needs.length : Int)) = false := decide_eq_false (by omega)
          have e := HK2.out
          rw [decide_eq_true hx, Bool.true_and] at e
          have HE := Lib.hid e
          clear e
          go_wp2_with fail
          go_round
          case rel => exact ⟨k + 1, by omega, by go_num, HE⟩
          case measure => simp [intOf]; omega
        · have d : decide ((10 : Int) < (x.needs.length : Int)) = true := decide_eq_true (by omega)
          have e := HK2.out
          rw [decide_eq_false hx, Bool.false_and] at e
          have HE := Lib.hid e
          clear e
          go_wp2_with fail
          go_ret
          exact ⟨ret_bool HE.out, rfl⟩
      · have e := HK.out
        rw [List.drop_eq_nil_of_le (by rw [HLM.out]; omega)] at e
        have HE := Lib.hid e
        clear e
        go_wp2_with fail
        go_ret
        exact ⟨ret_bool HE.out, rfl⟩
  · have e : shortB l most = false := by unfold shortB; rw [decide_eq_false h, Bool.false_and]
    have E := Lib.hid e
    have d1 : decide ((most : Int) < (l.length : Int)) = true := decide_eq_true (by omega)
    clear e
    go_enter Try.func10, Try.ntmps10
    go_wp2_with fail
    go_ret
    exact ⟨ret_bool E.out.symm, rfl⟩
theorem short_named {l : List Obj} {most : Nat} (h : shortB l most = true) (hn : ∀ o ∈ l, o.name.length ≤ maxLen ∧ ∀ n ∈ o.needs, n.length ≤ maxLen) : Named l ∧ l.length ≤ most := by
  unfold shortB at h
  simp only [Bool.and_eq_true, decide_eq_true_eq, List.all_eq_true] at h
  exact ⟨fun o ho => ⟨(hn o ho).1, by have := h.2 o ho; omega, (hn o ho).2⟩, h.1⟩
end Go.Proofs.Ytfneikphgmjfbaa
