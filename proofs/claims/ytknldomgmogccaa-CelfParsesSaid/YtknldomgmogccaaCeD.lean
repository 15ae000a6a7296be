/- Contracts of has, At, countsFit, isFunction. -/
import Derived.Test.YtknldomgmogccaaCeA
import Derived.LoopTactic
import Derived.Outline
import Derived.Deep.QuietTactic
import Derived.BigQuiet
import Derived.Laws.BitsAllLaws
import Derived.OpenShut
import Derived.Lib.SmallJoins
import Derived.Deep.RegionHeld3
import Derived.Deep.RegionWith
import Derived.Laws.NewBlocks
namespace Go.Proofs.Ytknldomgmogccaa
set_option linter.unusedVariables false
set_option linter.unusedSimpArgs false
open Go.Joins Go.ChangeShapes Go.WideShapes Go.ChangeAt Go.RowKit

set_option maxHeartbeats 1000000 in
theorem has_any (p z f x n : Int) (a : Option Addr) (k c : Nat) (s : Seg) (w : World) (hs : s.place = p ∧ s.size = z) (hp : u64B p) (hz : u64B z) (hx : u64B x) (hn : u64B n) :
    Calls Try.prog 24 #[.agg #[.int .u64 p, .int .u64 z, .int .i64 f, .slice a k c], .int .u64 x, .int .u64 n] w fun e w' => e = .returned (.bool (hasB s x n)) ∧ Below w.heap.size w w' := by
  obtain ⟨r, hr⟩ : ∃ r, hasB s x n = r := ⟨_, rfl⟩
  rw [hr]
  unfold hasB at hr
  rw [hs.1, hs.2] at hr
  have HR := Lib.hid hr
  obtain ⟨p0, p1⟩ := hp
  obtain ⟨z0, z1⟩ := hz
  obtain ⟨x0, x1⟩ := hx
  obtain ⟨n0, n1⟩ := hn
  clear hr hs
  by_cases c1 : p ≤ x
  · have w1 : IntKind.u64.wrap (x - p) = x - p := by rw [IntKind.wrap_u64]; omega
    by_cases c2 : x - p ≤ z
    · have w2 : IntKind.u64.wrap (z - (x - p)) = z - (x - p) := by rw [IntKind.wrap_u64]; omega
      go_enter Try.func24, Try.ntmps24
      go_wp2_with fail
      all_goals (go_ret; exact ⟨ret_bool (by rw [← HR.out, Bool.eq_iff_iff]; simp [c1, c2]; try (intros; omega)), bAlloc (Below.refl _ _) _⟩)
    · go_enter Try.func24, Try.ntmps24
      go_wp2_with fail
      all_goals (go_ret; exact ⟨ret_bool (by rw [← HR.out, Bool.eq_iff_iff]; simp [c1, c2]; try (intros; omega)), bAlloc (Below.refl _ _) _⟩)
  · go_enter Try.func24, Try.ntmps24
    go_wp2_with fail
    all_goals (go_ret; exact ⟨ret_bool (by rw [← HR.out, Bool.eq_iff_iff]; simp [c1]; try (intros; omega)), bAlloc (Below.refl _ _) _⟩)
set_option maxHeartbeats 1000000 in
theorem at_any (v0 v1 v3 v4 v5 v6 : Value) (ga : Option Addr) (m gc : Nat) (l : List Seg) (x n : Int) (w : World) (hm : l.length = m) (hg : RdG w ga l) (hl : m < 9223372036854775808) (hb : ∀ s ∈ l, u64B s.place ∧ u64B s.size) (hx : u64B x) (hn : u64B n) :
    Calls Try.prog 11 #[.agg #[v0, v1, .slice ga m gc, v3, v4, v5, v6], .int .u64 x, .int .u64 n] w fun e w' => e = .returned (.int .i64 (atF l x n)) ∧ Below w.heap.size w w' := by
  obtain ⟨r, hr⟩ : ∃ r, atF l x n = r := ⟨_, rfl⟩
  rw [hr]
  have HR := Lib.hid hr
  have HM := Lib.hid hm
  have HG := Lib.hid hg
  have HBD := Lib.hid hb
  have HX := Lib.hid hx
  have HNN := Lib.hid hn
  clear hr hm hg hb hx hn
  go_enter Try.func11, Try.ntmps11
  go_wp2_with fail
  go_loopw [12] (fun i wr => ∃ k : Nat, i = .int .i64 k ∧ k ≤ m ∧ Hid (∀ j (h : j < l.length), j < k → hasB l[j] x n = false) ∧ Hid (Below w.heap.size w wr)) (fun i _ => m - (intOf i).toNat)
  case atStart => exact ⟨0, rfl, by omega, Lib.hid (fun j h h0 => absurd h0 (by omega)), Lib.hid (bAlloc (Below.refl _ _) _)⟩
  case round =>
    obtain ⟨k, rfl, hk, HQ, HB⟩ := hrel
    by_cases hlt : k < m
    · have hkl : k < l.length := by rw [HM.out]; exact hlt
      obtain ⟨g, off, hge, -, hc⟩ := (HG.out.below HB.out).at_ hkl
      subst hge
      have hbd := HBD.out _ (List.getElem_mem hkl)
      obtain ⟨s, hs⟩ : ∃ s, l[k] = s := ⟨_, rfl⟩
      have hst : hasB s x n = false → ∀ j (h : j < l.length), j < k + 1 → hasB l[j] x n = false := fun h j hj hj2 => by
        by_cases e : j = k
        · subst e; rw [hs]; exact h
        · exact HQ.out j hj (by omega)
      have hhit : hasB s x n = true → (k : Int) = r := fun h => by
        rw [← HR.out]
        exact (firstI_some hkl (by show hasB l[k] x n = true; rw [hs]; exact h) (fun j hj => HQ.out j (by omega) hj)).symm
      rw [hs] at hc hbd
      obtain ⟨c0, c1, c2, c3⟩ := hc
      have HHAS := Lib.hid (fun W => has_any s.place s.size s.flags x n s.ba s.bytes.length s.bc s W ⟨rfl, rfl⟩ hbd.1 hbd.2 HX.out HNN.out)
      have HST := Lib.hid hst
      have HHI := Lib.hid hhit
      obtain ⟨q, hq⟩ : ∃ q, hasB s x n = q := ⟨_, rfl⟩
      rw [hq] at HHAS HST HHI
      obtain ⟨e0, he0⟩ : ∃ e, s.place = e := ⟨_, rfl⟩
      obtain ⟨e1, he1⟩ : ∃ e, s.size = e := ⟨_, rfl⟩
      obtain ⟨e2, he2⟩ : ∃ e, s.flags = e := ⟨_, rfl⟩
      obtain ⟨e3, he3⟩ : ∃ e, s.ba = e := ⟨_, rfl⟩
      obtain ⟨e4, he4⟩ : ∃ e, s.bytes.length = e := ⟨_, rfl⟩
      obtain ⟨e5, he5⟩ : ∃ e, s.bc = e := ⟨_, rfl⟩
      rw [he0, he1, he2, he3, he4, he5] at HHAS
      rw [he0] at c0
      rw [he1] at c1
      rw [he2] at c2
      rw [he3, he4, he5] at c3
      have kk0 : (0 : Int) ≤ (k : Int) := by omega
      have kk1 : (k : Int) < (m : Int) := by omega
      clear hst hhit hbd hkl hs hq he0 he1 he2 he3 he4 he5
      go_wp2_with fail
      refine (HHAS.out _).mono ?_; rintro e w' ⟨rfl, hb'⟩
      have HB' := Lib.hid (bTrans (bAlloc HB.out _) hb')
      clear hb'
      cases q with
      | true =>
        have hkr := HHI.out rfl
        subst hkr
        go_wp2_with fail
        go_ret
        exact ⟨rfl, HB'.out⟩
      | false =>
        have HN1 := Lib.hid (HST.out rfl)
        go_wp2_with fail
        go_roundw
        case rel => exact ⟨k + 1, by go_num, by omega, HN1, HB'⟩
        case measure => simp [intOf]; omega
    · have hk2 : k = m := by omega
      subst hk2
      have hn1 : (-1 : Int) = r := by
        rw [← HR.out]
        exact (firstI_none (fun j h => HQ.out j h (by rw [HM.out] at h; exact h))).symm
      subst hn1
      go_wp2_with fail
      go_ret
      exact ⟨rfl, HB.out⟩
set_option maxHeartbeats 1000000 in
theorem counts_any (v0 : Value) (a1 a2 a3 a4 a5 a6 : Option Addr) (n1 c1 n2 c2 n3 c3 n4 c4 n5 c5 n6 c6 : Nat) (w : World) :
    Calls Try.prog 26 #[.agg #[v0, .slice a1 n1 c1, .slice a2 n2 c2, .slice a3 n3 c3, .slice a4 n4 c4, .slice a5 n5 c5, .slice a6 n6 c6]] w fun e w' => e = .returned (.bool (decide (n1 ≤ 8) && (decide (n2 ≤ 6) && (decide (n3 ≤ 40) && (decide (n4 ≤ 60) && (decide (n5 ≤ 8) && decide (n6 ≤ 8))))))) ∧ Below w.heap.size w w' := by
  go_enter Try.func26, Try.ntmps26
  go_wp2_with fail
  all_goals (go_ret; exact ⟨ret_bool (by rw [Bool.eq_iff_iff]; simp; omega), bAlloc (Below.refl _ _) _⟩)
set_option maxHeartbeats 1000000 in
theorem fn_any (v0 v1 v2 v4 v5 v6 : Value) (sa : Option Addr) (m sc : Nat) (l : List Sym) (n : Int) (w : World) (hm : l.length = m) (hg : RdS w sa l) (hl : m < 9223372036854775808) :
    Calls Try.prog 34 #[.agg #[v0, v1, v2, .slice sa m sc, v4, v5, v6], .int .i64 n] w fun e w' => e = .returned (.bool (fnB l n)) ∧ Below w.heap.size w w' := by
  obtain ⟨r, hr⟩ : ∃ r, fnB l n = r := ⟨_, rfl⟩
  rw [hr]
  by_cases h0 : 0 ≤ n
  · by_cases h1 : n < m
    · obtain ⟨k, rfl⟩ := Int.eq_ofNat_of_zero_le h0
      have hkl : k < l.length := by rw [hm]; omega
      obtain ⟨g, off, hge, -, c0, c1, c2, c3, c4, c5, c6, c7⟩ := (hg.below (bAlloc (Below.refl _ _) (.cells #[v0, v1, v2, .slice sa m sc, v4, v5, v6] 30))).at_ hkl
      subst hge
      have hr2 : (l[k].defd && decide (l[k].kind = 1)) = r := by
        rw [← hr]
        unfold fnB
        rw [Int.toNat_natCast, List.getElem?_eq_getElem hkl, hm, decide_eq_true h0, decide_eq_true h1]
        rfl
      obtain ⟨e4, he4⟩ : ∃ e, l[k].kind = e := ⟨_, rfl⟩
      obtain ⟨e7, he7⟩ : ∃ e, l[k].defd = e := ⟨_, rfl⟩
      rw [he4] at c4 hr2
      rw [he7] at c7 hr2
      have HR := Lib.hid hr2
      clear hr hr2 hm hg he4 he7 c0 c1 c2 c3 c5 c6 hkl
      cases e7 <;>
      · go_enter Try.func34, Try.ntmps34
        go_wp2_with fail
        all_goals (go_ret; exact ⟨ret_bool (by rw [← HR.out]; first | (simp; done) | (simp; rfl)), bAlloc (Below.refl _ _) _⟩)
    · have hr2 : false = r := by rw [← hr]; unfold fnB; rw [hm, decide_eq_false h1]; simp
      subst hr2
      clear hr hm hg
      go_enter Try.func34, Try.ntmps34
      go_wp2_with fail
      all_goals (go_ret; exact ⟨rfl, bAlloc (Below.refl _ _) _⟩)
  · have hr2 : false = r := by rw [← hr]; unfold fnB; rw [decide_eq_false h0]; simp
    subst hr2
    clear hr hm hg
    go_enter Try.func34, Try.ntmps34
    go_wp2_with fail
    all_goals (go_ret; exact ⟨rfl, bAlloc (Below.refl _ _) _⟩)
end Go.Proofs.Ytknldomgmogccaa
