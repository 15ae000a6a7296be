/- The document's Find, and the program's: contracts. -/
import Derived.Test.YthammjpadbbflaaHasF
import Derived.BigGuardPart
namespace Go.Proofs.Ythammjpadbbflaa
set_option linter.unusedVariables false
set_option linter.unusedSimpArgs false
open Go.Joins Go.ChangeShapes Go.WideShapes Go.ChangeAt Go.RowKit

def hitS (name ver : List UInt8) (s : Sym) : Bool := shownB s && isB s name ver
/-- the first symbol that is shown, with that name and version, from place i on; -1: there is none -/
def findZ (l : List Sym) (name ver : List UInt8) (i : Nat) : Int := match (l.drop i).findIdx? (hitS name ver) with
  | some k => ((i + k : Nat) : Int)
  | none => -1
theorem findZ_end (l : List Sym) (name ver : List UInt8) (i : Nat) (h : l.length ≤ i) : findZ l name ver i = -1 := by
  unfold findZ; rw [List.drop_eq_nil_of_le h]; rfl
theorem findZ_hit (l : List Sym) (name ver : List UInt8) (i : Nat) (h : i < l.length) (hb : hitS name ver l[i] = true) : findZ l name ver i = (i : Int) := by
  unfold findZ
  rw [List.drop_eq_getElem_cons h, List.findIdx?_cons, hb]
  rfl
theorem findZ_miss (l : List Sym) (name ver : List UInt8) (i : Nat) (h : i < l.length) (hb : hitS name ver l[i] = false) : findZ l name ver i = findZ l name ver (i + 1) := by
  unfold findZ
  rw [List.drop_eq_getElem_cons h, List.findIdx?_cons, hb]
  simp only [Bool.false_eq_true, if_false]
  cases (l.drop (i + 1)).findIdx? (hitS name ver) with
  | none => rfl
  | some k => simp; omega
set_option maxHeartbeats 1000000 in
theorem rfind_any (a : Option Addr) (l : List Sym) (c : Nat) (name ver : List UInt8) (w : World) (hl : RdS w a l) (hm : l.length ≤ 1000000) :
    Calls Try.prog 32 #[.slice a l.length c, .string ⟨name.toArray⟩, .string ⟨ver.toArray⟩] w fun e w' => e = .returned (.int .i64 (findZ l name ver 0)) ∧ Below w.heap.size w w' := by
  obtain ⟨r, hr⟩ : ∃ r, findZ l name ver 0 = r := ⟨_, rfl⟩
  rw [hr]
  have HL := Lib.hid hl
  have HR := Lib.hid hr
  clear hl hr
  generalize hlm : l.length = m at *
  have HLM := Lib.hid hlm
  clear hlm
  go_enter Try.func32, Try.ntmps32
  go_wp2_with fail
  go_loopw [7] (fun i wr => ∃ k : Nat, k ≤ m ∧ i = .int .i64 k ∧ Hid (findZ l name ver k = r) ∧ Hid (Below w.heap.size w wr)) (fun i _ => m - (intOf i).toNat)
  case atStart => exact ⟨0, by omega, rfl, HR, Lib.hid (Below.refl _ _)⟩
  case round =>
    obtain ⟨k, hk, rfl, HK, HB⟩ := hrel
    by_cases h : k < m
    · have hkl : k < l.length := by rw [HLM.out]; exact h
      obtain ⟨B, o, rfl, hBl, hc⟩ := (HL.out.below HB.out).at_ hkl
      obtain ⟨s, hs⟩ : ∃ s, l[k] = s := ⟨_, rfl⟩
      rw [hs] at hc
      have HS := Lib.hid hs
      have HC := Lib.hid hc
      obtain ⟨h0, h1, h2, h3, h4, h5, h6, h7⟩ := hc
      clear hs
      by_cases hsh : shownB s = true
      · go_wp2_with fail
        refine (rshown_sym s _).mono ?_; rintro e w1 ⟨rfl, hb1⟩
        rw [hsh]
        have c1 := HC.out.below hb1
        have HB1 := Lib.hid (bTrans HB.out hb1)
        obtain ⟨g0, g1, g2, g3, g4, g5, g6, g7⟩ := c1
        clear h0 h1 h2 h3 h4 h5 h6 h7 hb1 HB
        go_wp2_with fail
        all_goals first
          | (have e : hitS name ver l[k] = true := by (rw [HS.out]; unfold hitS isB; simp [*]; done)
             have hr := HK.out
             rw [findZ_hit l name ver k hkl e] at hr
             go_ret
             exact ⟨ret_int hr, HB1.out⟩)
          | (have e : hitS name ver l[k] = false := by (rw [HS.out]; unfold hitS isB; simp [*]; done)
             have hr := HK.out
             rw [findZ_miss l name ver k hkl e] at hr
             have HR2 := Lib.hid hr
             clear hr e
             go_roundw
             case rel => exact ⟨k + 1, by omega, by go_num, HR2, HB1⟩
             case measure => simp [intOf]; omega)
          | go_ways
      · rw [Bool.not_eq_true] at hsh
        go_wp2_with fail
        refine (rshown_sym s _).mono ?_; rintro e w1 ⟨rfl, hb1⟩
        rw [hsh]
        have HB1 := Lib.hid (bTrans HB.out hb1)
        clear h0 h1 h2 h3 h4 h5 h6 h7 hb1 HB
        have hr := HK.out
        rw [findZ_miss l name ver k hkl (by rw [HS.out]; unfold hitS; rw [hsh]; rfl)] at hr
        have HR2 := Lib.hid hr
        clear hr
        go_wp2_with fail
        go_roundw
        case rel => exact ⟨k + 1, by omega, by go_num, HR2, HB1⟩
        case measure => simp [intOf]; omega
    · have hr := HK.out
      rw [findZ_end l name ver k (by rw [HLM.out]; omega)] at hr
      have HR2 := Lib.hid hr
      clear hr
      go_wp2_with fail
      go_ret
      exact ⟨ret_int HR2.out, HB.out⟩
end Go.Proofs.Ythammjpadbbflaa
