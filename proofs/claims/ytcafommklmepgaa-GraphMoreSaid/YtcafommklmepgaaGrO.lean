/- slices.Reverse and End: contracts. -/
import Derived.Test.YtcafommklmepgaaGrN
import Derived.Deep.Cut
import Derived.Deep.DeepCutAuto
import Derived.Deep.RegionLaw
import Derived.BigRegion
import Derived.IntWalk
namespace Go.Proofs.Ytcafommklmepgaa
set_option linter.unusedVariables false
set_option linter.unusedSimpArgs false
open Go.Joins Go.ChangeShapes Go.WideShapes Go.ChangeAt Go.RowKit

/-- a row of which i numbers at each end have changed places -/
def Rev (z y : List Int) (i : Nat) : Prop := y.length = z.length ∧ ∀ p (h1 : p < y.length) (h2 : p < z.length), y[p] = if p < i ∨ z.length - i ≤ p then z[z.length - 1 - p]'(by omega) else z[p]
theorem Rev.zero (z : List Int) : Rev z z 0 := ⟨rfl, fun p h1 h2 => by rw [if_neg (by omega)]⟩
theorem Rev.done {z y : List Int} {i : Nat} (h : Rev z y i) (hi : z.length ≤ 2 * i + 1) : y = z.reverse := by
  refine List.ext_getElem (by rw [h.1, List.length_reverse]) fun p h1 h2 => ?_
  have hp : p < z.length := by rw [h.1] at h1; exact h1
  rw [h.2 p h1 hp, List.getElem_reverse]
  by_cases e : p < i ∨ z.length - i ≤ p
  · rw [if_pos e]
  · rw [if_neg e]
    congr 1
    omega
theorem Rev.next {z y : List Int} {i : Nat} (h : Rev z y i) (hi : 2 * i + 1 < z.length) (hy1 : i < y.length) (hy2 : z.length - 1 - i < y.length) : Rev z ((y.set i y[z.length - 1 - i]).set (z.length - 1 - i) y[i]) (i + 1) := by
  have hl := h.1
  refine ⟨by simp [hl], fun p h1 h2 => ?_⟩
  rw [List.getElem_set]
  by_cases e1 : z.length - 1 - i = p
  · subst e1
    rw [if_pos rfl, if_pos (by omega), h.2 i hy1 (by omega), if_neg (by omega)]
    congr 1
    omega
  · rw [if_neg e1, List.getElem_set]
    by_cases e2 : i = p
    · subst e2
      rw [if_pos rfl, if_pos (by omega), h.2 _ hy2 (by omega), if_neg (by omega)]
    · rw [if_neg e2, h.2 p (by omega) h2]
      by_cases e : p < i ∨ z.length - i ≤ p
      · rw [if_pos e, if_pos (by omega)]
      · rw [if_neg e, if_neg (by omega)]
set_option maxHeartbeats 2000000 in
theorem reverse_any (a : Option Addr) (n c : Nat) (z : List Int) (w0 w : World) (ho : w.ownsRow w0.heap.size 3 1 (.slice a n c) n (i64s z)) (hb : Below w0.heap.size w0 w) (hn : n ≤ 1000000) :
    Calls Try.prog 30 #[.slice a n c] w fun e w' => e = .returned (.tuple #[]) ∧ w'.ownsRow w0.heap.size 3 1 (.slice a n c) n (i64s z.reverse) ∧ Below w0.heap.size w0 w' := by
  have hz : z.length = n := by have := ho.1; rw [i64s_length] at this; omega
  have HZ := Lib.hid hz
  have HO := Lib.hid ho
  have HB := Lib.hid hb
  clear ho hb hz
  go_enter Try.func30, Try.ntmps30
  go_wp2_with fail
  go_loopw [2, 3] (fun u v wr => ∃ (i : Nat) (y : List Int), u = .int .i64 i ∧ v = .int .i64 ((n : Int) - 1 - i) ∧ (i = 0 ∨ 2 * i ≤ n + 1) ∧ Hid (Rev z y i) ∧ Hid (wr.ownsRow w0.heap.size 3 1 (.slice a n c) n (i64s y)) ∧ Hid (Below w0.heap.size w0 wr)) (fun u _ _ => n - (intOf u).toNat)
  case atStart => exact ⟨0, z, rfl, by simp, Or.inl rfl, Lib.hid (Rev.zero z), HO, HB⟩
  case round =>
    obtain ⟨i, y, rfl, rfl, hi, HR, HW, HBW⟩ := hrel
    by_cases hlt : (i : Int) < (n : Int) - 1 - i
    · obtain ⟨k, hk⟩ : ∃ k : Nat, (n : Int) - 1 - i = (k : Int) := ⟨n - 1 - i, by omega⟩
      rw [hk] at hlt ⊢
      obtain ⟨g, hga⟩ : ∃ g, a = some ⟨g, 0, none⟩ := by
        rcases HW.out.2 with ⟨h1, h2⟩ | ⟨g, cap, cur, h1, -⟩
        · omega
        · injection h1 with h1 _ _
          exact ⟨g, h1⟩
      subst hga
      have hyl : y.length = n := HR.out.1.trans HZ.out
      have hiy : i < y.length := by omega
      have hky : k < y.length := by omega
      have cu := (HW.out.cellAt i (by omega)).trans (i64s_get y i hiy)
      have cv := (HW.out.cellAt k (by omega)).trans (i64s_get y k hky)
      have fu := HW.out.frozenAt i
      have fv := HW.out.frozenAt k
      have s1 := HW.out.stored i (.int .i64 y[k])
      have s2 := s1.1.stored k (.int .i64 y[i])
      have hb1 := HBW.out.setCell (p := ⟨g, i, none⟩) (by have := lt_of_own HW.out (g := g) rfl; exact this.1) (.int .i64 y[k])
      have hb2 := hb1.setCell (p := ⟨g, k, none⟩) (by have := lt_of_own HW.out (g := g) rfl; exact this.1) (.int .i64 y[i])
      have hrn := HR.out.next (by rw [HZ.out]; omega) hiy (by rw [HZ.out]; omega)
      have hkn : z.length - 1 - i = k := by rw [HZ.out]; omega
      simp only [hkn] at hrn
      have hset : ((i64s y).set i (.int .i64 y[k])).set k (.int .i64 y[i]) = i64s ((y.set i y[k]).set k y[i]) := by simp only [i64s, List.map_set]
      rw [hset] at s2
      generalize (y.set i y[k]).set k y[i] = y2 at hrn s2
      generalize y[k] = vk at cv hb1 hb2 s2
      generalize y[i] = vi at cu hb2 s2
      have HRN := Lib.hid hrn
      have HW2 := Lib.hid s2.1
      have HB2 := Lib.hid hb2
      have hne : i ≠ k := by omega
      have hkn2 : k < n := by omega
      have hin2 : i < n := by omega
      have e1 : IntKind.i64.wrap ((i : Int) + 1) = (i : Int) + 1 := IntWalk.i64_in _ (by omega)
      have e2 : IntKind.i64.wrap ((k : Int) - 1) = (k : Int) - 1 := IntWalk.i64_in _ (by omega)
      clear s1 s2 hb1 hb2 hrn hkn hset hyl hiy hky
      go_wp2_with fail
      go_region_law (fail)
      all_goals (go_wp2_with fail)
      all_goals exact ⟨⟨i + 1, y2, by go_num, congrArg (Value.int .i64) (by omega), by omega, HRN, HW2, Lib.hid (bDrewN HB2.out 1)⟩, by simp [intOf]; omega⟩
    · go_wp2_with fail
      go_end0
      have := HR.out.done (by rw [HZ.out]; omega)
      exact ⟨rfl, by rw [← this]; exact HW.out, HBW.out⟩
def EndPost (w : World) (l : List Obj) (ord : List Nat) (e : Ending) (w' : World) : Prop :=
  ∃ a c m1 o1, e = .returned (.slice a o1.length c) ∧ Vis l ord [] [] (ord.map some) m1 o1 ∧ w'.ownsRow w.heap.size 3 1 (.slice a o1.length c) o1.length (i64s (ordZ o1).reverse) ∧ GoodO l m1 o1 ∧ Below w.heap.size w w'
theorem end_any (a : Option Addr) (l : List Obj) (c : Nat) (b : Option Addr) (ord : List Nat) (d : Nat) (w : World) (hl : RdO w a l) (hm : l.length ≤ 1000000) (hnm : Named l) (ho : Rd w b ord.length (i64s (ordZ ord))) (hord : ∀ k ∈ ord, k < l.length) (hol : ord.length ≤ 1000000) :
    Calls Try.prog 19 #[.slice a l.length c, .slice b ord.length d] w (EndPost w l ord) := by
  have HC := Lib.hid (begin_any a l c b ord d w hl hm hnm ho hord hol)
  clear hl hnm ho hord
  obtain ⟨m, hlm⟩ : ∃ m, l.length = m := ⟨_, rfl⟩
  obtain ⟨q, hq⟩ : ∃ q, ord.length = q := ⟨_, rfl⟩
  rw [hlm] at HC hm ⊢
  rw [hq] at HC hol ⊢
  have HLM := Lib.hid hlm
  clear hlm hq
  go_enter Try.func19, Try.ntmps19
  go_wp2_with fail
  refine HC.out.mono ?_; rintro e w1 ⟨a1, c1, m1, o1, rfl, hv, hown, hg, hb⟩
  have hol1 := hg.le
  rw [HLM.out] at hol1
  have HR := Lib.hid (reverse_any a1 o1.length c1 (ordZ o1) w w1 hown hb (by omega))
  have HV := Lib.hid hv
  have HG := Lib.hid hg
  clear hv hown hg hb
  go_wp2_with fail
  refine HR.out.mono ?_; rintro e w2 ⟨rfl, hown, hb⟩
  have HOW := Lib.hid hown
  have HB := Lib.hid hb
  clear hown hb
  go_wp2_with fail
  go_ret
  exact ⟨a1, c1, m1, o1, rfl, HV.out, HOW.out, HG.out, HB.out⟩
end Go.Proofs.Ytcafommklmepgaa
