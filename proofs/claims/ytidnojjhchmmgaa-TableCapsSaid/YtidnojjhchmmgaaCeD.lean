/- Contracts of has, At, countsFit, isFunction. -/
import Derived.Test.YtidnojjhchmmgaaCeA
import Derived.LoopTactic
import Derived.Outline
import Derived.Deep.QuietTactic
import Derived.BigQuiet
import Derived.Laws.BitsAllLaws
import Derived.OpenShut
import Derived.Lib.SmallJoins
import Derived.Deep.RegionHeld3
import Derived.Deep.RegionWith
import Derived.Laws.NewBlocks
namespace Go.Proofs.Ytidnojjhchmmgaa
set_option linter.unusedVariables false
set_option linter.unusedSimpArgs false
open Go.Joins Go.ChangeShapes Go.WideShapes Go.ChangeAt Go.RowKit

set_option maxHeartbeats 1000000 in
theorem has_any (p z f x n : Int) (a : Option Addr) (k c : Nat) (s : Seg) (w : World) (hs : s.place = p ∧ s.size = z) (hp : u64B p) (hz : u64B z) (hx : u64B x) (hn : u64B n) :
    Calls Try.prog 48 #[.agg #[.int .u64 p, .int .u64 z, .int .i64 f, .slice a k c], .int .u64 x, .int .u64 n] w fun e w' => e = .returned (.bool (hasB s x n)) ∧ Below w.heap.size w w' := by
  obtain ⟨r, hr⟩ : ∃ r, hasB s x n = r := ⟨_, rfl⟩
  rw [hr]
  unfold hasB at hr
  rw [hs.1, hs.2] at hr
  have HR := Lib.hid hr
  obtain ⟨p0, p1⟩ := hp
  obtain ⟨z0, z1⟩ := hz
  obtain ⟨x0, x1⟩ := hx
  obtain ⟨n0, n1⟩ := hn
  clear hr hs
  by_cases c1 : p ≤ x
  · have w1 : IntKind.u64.wrap (x - p) = x - p := by rw [IntKind.wrap_u64]; omega
    by_cases c2 : x - p ≤ z
    · have w2 : IntKind.u64.wrap (z - (x - p)) = z - (x - p) := by rw [IntKind.wrap_u64]; omega
      go_enter Try.func48, Try.ntmps48
      go_wp2_with fail
      all_goals (go_ret; exact ⟨ret_bool (by rw [← HR.out, Bool.eq_iff_iff]; simp [c1, c2]; try (intros; omega)), bAlloc (Below.refl _ _) _⟩)
    · go_enter Try.func48, Try.ntmps48
      go_wp2_with fail
      all_goals (go_ret; exact ⟨ret_bool (by rw [← HR.out, Bool.eq_iff_iff]; simp [c1, c2]; try (intros; omega)), bAlloc (Below.refl _ _) _⟩)
  · go_enter Try.func48, Try.ntmps48
    go_wp2_with fail
    all_goals (go_ret; exact ⟨ret_bool (by rw [← HR.out, Bool.eq_iff_iff]; simp [c1]; try (intros; omega)), bAlloc (Below.refl _ _) _⟩)
set_option maxHeartbeats 1000000 in
theorem at_any (v0 v1 v3 v4 v5 v6 : Value) (ga : Option Addr) (m gc : Nat) (l : List Seg) (x n : Int) (w : World) (hm : l.length = m) (hg : RdG w ga l) (hl : m < 9223372036854775808) (hb : ∀ s ∈ l, u64B s.place ∧ u64B s.size) (hx : u64B x) (hn : u64B n) :
    Calls Try.prog 39 #[.agg #[v0, v1, .slice ga m gc, v3, v4, v5, v6], .int .u64 x, .int .u64 n] w fun e w' => e = .returned (.int .i64 (atF l x n)) ∧ Below w.heap.size w w' := by
  obtain ⟨r, hr⟩ : ∃ r, atF l x n = r := ⟨_, rfl⟩
  rw [hr]
  have HR := Lib.hid hr
  have HM := Lib.hid hm
  have HG := Lib.hid hg
  have HBD := Lib.hid hb
  have HX := Lib.hid hx
  have HNN := Lib.hid hn
  clear hr hm hg hb hx hn
  go_enter Try.func39, Try.ntmps39
  go_wp2_with fail
  go_loopw [12] (fun i wr => ∃ k : Nat, i = .int .i64 k ∧ k ≤ m ∧ Hid (∀ j (h : j < l.length), j < k → hasB l[j] x n = false) ∧ Hid (Below w.heap.size w wr)) (fun i _ => m - (intOf i).toNat)
  case atStart => exact ⟨0, rfl, by omega, Lib.hid (fun j h h0 => absurd h0 (by omega)), Lib.hid (bAlloc (Below.refl _ _) _)⟩
  case round =>
    obtain ⟨k, rfl, hk, HQ, HB⟩ := hrel
    by_cases hlt : k < m
    · have hkl : k < l.length := by rw [HM.out]; exact hlt
      obtain ⟨g, off, hge, -, hc⟩ := (HG.out.below HB.out).at_ hkl
      subst hge
      have hbd := HBD.out _ (List.getElem_mem hkl)
      obtain ⟨s, hs⟩ : ∃ s, l[k] = s := ⟨_, rfl⟩
      have hst : hasB s x n = false → ∀ j (h : j < l.length), j < k + 1 → hasB l[j] x n = false := fun h j hj hj2 => by
        by_cases e : j = k
        · subst e; rw [hs]; exact h
        · exact HQ.out j hj (by omega)
      have hhit : hasB s x n = true → (k : Int) = r := fun h => by
        rw [← HR.out]
        exact (firstI_some hkl (by show hasB l[k] x n = true; rw [hs]; exact h) (fun j hj => HQ.out j (by omega) hj)).symm
      rw [hs] at hc hbd
      obtain ⟨c0, c1, c2, c3⟩ := hc
      have HHAS := Lib.hid (fun W => has_any s.place s.size s.flags x n s.ba s.bytes.length s.bc s W ⟨rfl, rfl⟩ hbd.1 hbd.2 HX.out HNN.out)
      have HST := Lib.hid hst
      have HHI := Lib.hid hhit
      obtain ⟨q, hq⟩ : ∃ q, hasB s x n = q := ⟨_, rfl⟩
      rw [hq] at HHAS HST HHI
      obtain ⟨e0, he0⟩ : ∃ e, s.place = e := ⟨_, rfl⟩
      obtain ⟨e1, he1⟩ : ∃ e, s.size = e := ⟨_, rfl⟩
      obtain ⟨e2, he2⟩ : ∃ e, s.flags = e := ⟨_, rfl⟩
      obtain ⟨e3, he3⟩ : ∃ e, s.ba = e := ⟨_, rfl⟩
      obtain ⟨e4, he4⟩ : ∃ e, s.bytes.length = e := ⟨_, rfl⟩
      obtain ⟨e5, he5⟩ : ∃ e, s.bc = e := ⟨_, rfl⟩
      rw [he0, he1, he2, he3, he4, he5] at HHAS
      rw [he0] at c0
      rw [he1] at c1
      rw [he2] at c2
      rw [he3, he4, he5] at c3
      have kk0 : (0 : Int) ≤ (k : Int) := by omega
      have kk1 : (k : Int) < (m : Int) := by omega
      clear hst hhit hbd hkl hs hq he0 he1 he2 he3 he4 he5
      go_wp2_with fail
      refine (HHAS.out _).mono ?_; rintro e w' ⟨rfl, hb'⟩
      have HB' := Lib.hid (bTrans (bAlloc HB.out _) hb')
      clear hb'
      cases q with
      | true =>
        have hkr := HHI.out rfl
        subst hkr
        go_wp2_with fail
        go_ret
        exact ⟨rfl, HB'.out⟩
      | false =>
        have HN1 := Lib.hid (HST.out rfl)
        go_wp2_with fail
        go_roundw
        case rel => exact ⟨k + 1, by go_num, by omega, HN1, HB'⟩
        case measure => simp [intOf]; omega
    · have hk2 : k = m := by omega
      subst hk2
      have hn1 : (-1 : Int) = r := by
        rw [← HR.out]
        exact (firstI_none (fun j h => HQ.out j h (by rw [HM.out] at h; exact h))).symm
      subst hn1
      go_wp2_with fail
      go_ret
      exact ⟨rfl, HB.out⟩
end Go.Proofs.Ytidnojjhchmmgaa
