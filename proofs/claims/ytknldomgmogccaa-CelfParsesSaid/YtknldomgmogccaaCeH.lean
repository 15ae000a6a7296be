/- What holds of each of a list: contracts of slices.IndexFunc, slices.ContainsFunc and of all. -/
import Derived.Test.YtknldomgmogccaaCeG
import Derived.Test.YtknldomgmogccaaCeF
namespace Go.Proofs.Ytknldomgmogccaa
set_option linter.unusedVariables false
set_option linter.unusedSimpArgs false
open Go.Joins Go.ChangeShapes Go.WideShapes Go.ChangeAt Go.RowKit

theorem box_cell {w W : World} {cs : Array Value} {t : TypeId} (h : Below (w.alloc (.cells cs t)).heap.size (w.alloc (.cells cs t)) W) (j : Nat) {v : Value} (hv : cs[j]? = some v) : W.cell? ⟨w.heap.size, j, none⟩ = some v := (boxed h j).trans hv
set_option maxHeartbeats 1000000 in
theorem idxSym (B : Nat) (a : Option Addr) (m c : Nat) (l : List Sym) (p : Sym → Bool) (w : World) (hm : l.length = m) (hg : RdS w a l) (hl : m < 9223372036854775808)
    (hf : ∀ W, Below w.heap.size w W → ∀ x ∈ l, Calls Try.prog 57 #[.agg #[.string ⟨x.name.toArray⟩, .string ⟨x.ver.toArray⟩, .int .u64 x.place, .int .u64 x.size, .int .i64 x.kind, .int .i64 x.bind, .int .i64 x.seen, .bool x.defd], .pointer (some ⟨B, 0, none⟩)] W fun e W' => e = .returned (.bool (p x)) ∧ Below W.heap.size W W') :
    Calls Try.prog 69 #[.slice a m c, .func (.func 57) #[] #[.pointer (some ⟨B, 0, none⟩)]] w fun e w' => e = .returned (.int .i64 (firstI p l)) ∧ Below w.heap.size w w' := by
  obtain ⟨r, hr⟩ : ∃ r, firstI p l = r := ⟨_, rfl⟩
  rw [hr]
  have HR := Lib.hid hr
  have HM := Lib.hid hm
  have HG := Lib.hid hg
  have HF := Lib.hid hf
  clear hr hm hg hf
  go_enter Try.func69, Try.ntmps69
  go_wp2_with fail
  go_loopw [8] (fun i wr => ∃ k : Nat, i = .int .i64 k ∧ k ≤ m ∧ Hid (∀ j (h : j < l.length), j < k → p l[j] = false) ∧ Hid (Below w.heap.size w wr)) (fun i _ => m - (intOf i).toNat)
  case atStart => exact ⟨0, rfl, by omega, Lib.hid (fun j h h0 => absurd h0 (by omega)), Lib.hid (Below.refl _ _)⟩
  case round =>
    obtain ⟨k, rfl, hk, HQ, HB⟩ := hrel
    by_cases hlt : k < m
    · have hkl : k < l.length := by rw [HM.out]; exact hlt
      obtain ⟨g, off, hge, -, hc⟩ := (HG.out.below HB.out).at_ hkl
      subst hge
      have hcall := HF.out wr HB.out _ (List.getElem_mem hkl)
      obtain ⟨x, hx⟩ : ∃ x, l[k] = x := ⟨_, rfl⟩
      have hst : p x = false → ∀ j (h : j < l.length), j < k + 1 → p l[j] = false := fun h j hj hj2 => by
        by_cases e : j = k
        · subst e; rw [hx]; exact h
        · exact HQ.out j hj (by omega)
      have hhit : p x = true → (k : Int) = r := fun h => by
        rw [← HR.out]
        exact (firstI_some hkl (by rw [hx]; exact h) (fun j hj => HQ.out j (by omega) hj)).symm
      rw [hx] at hcall hc
      obtain ⟨c0, c1, c2, c3, c4, c5, c6, c7⟩ := hc
      obtain ⟨e0, he0⟩ : ∃ e, x.name = e := ⟨_, rfl⟩
      rw [he0] at hcall c0
      clear he0
      obtain ⟨e1, he1⟩ : ∃ e, x.ver = e := ⟨_, rfl⟩
      rw [he1] at hcall c1
      clear he1
      obtain ⟨e2, he2⟩ : ∃ e, x.place = e := ⟨_, rfl⟩
      rw [he2] at hcall c2
      clear he2
      obtain ⟨e3, he3⟩ : ∃ e, x.size = e := ⟨_, rfl⟩
      rw [he3] at hcall c3
      clear he3
      obtain ⟨e4, he4⟩ : ∃ e, x.kind = e := ⟨_, rfl⟩
      rw [he4] at hcall c4
      clear he4
      obtain ⟨e5, he5⟩ : ∃ e, x.bind = e := ⟨_, rfl⟩
      rw [he5] at hcall c5
      clear he5
      obtain ⟨e6, he6⟩ : ∃ e, x.seen = e := ⟨_, rfl⟩
      rw [he6] at hcall c6
      clear he6
      obtain ⟨e7, he7⟩ : ∃ e, x.defd = e := ⟨_, rfl⟩
      rw [he7] at hcall c7
      clear he7
      have HST := Lib.hid hst
      have HHI := Lib.hid hhit
      obtain ⟨q, hq⟩ : ∃ q, p x = q := ⟨_, rfl⟩
      rw [hq] at hcall HST HHI
      have HC := Lib.hid hcall
      have kk0 : (0 : Int) ≤ (k : Int) := by omega
      have kk1 : (k : Int) < (m : Int) := by omega
      clear hst hhit hkl hx hq hcall
      go_wp2_with fail
      refine HC.out.mono ?_; rintro e w' ⟨rfl, hb'⟩
      have HB' := Lib.hid (bTrans HB.out hb')
      clear hb'
      cases q with
      | true =>
        have hkr := HHI.out rfl
        subst hkr
        go_wp2_with fail
        go_ret
        exact ⟨rfl, HB'.out⟩
      | false =>
        have HN1 := Lib.hid (HST.out rfl)
        go_wp2_with fail
        go_roundw
        case rel => exact ⟨k + 1, by go_num, by omega, HN1, HB'⟩
        case measure => simp [intOf]; omega
    · have hk2 : k = m := by omega
      subst hk2
      have hn1 : (-1 : Int) = r := by
        rw [← HR.out]
        exact (firstI_none (fun j h => HQ.out j h (by rw [HM.out] at h; exact h))).symm
      subst hn1
      go_wp2_with fail
      go_ret
      exact ⟨rfl, HB.out⟩
theorem contSym (B : Nat) (a : Option Addr) (m c : Nat) (l : List Sym) (p : Sym → Bool) (w : World) (hm : l.length = m) (hg : RdS w a l) (hl : m < 9223372036854775808)
    (hf : ∀ W, Below w.heap.size w W → ∀ x ∈ l, Calls Try.prog 57 #[.agg #[.string ⟨x.name.toArray⟩, .string ⟨x.ver.toArray⟩, .int .u64 x.place, .int .u64 x.size, .int .i64 x.kind, .int .i64 x.bind, .int .i64 x.seen, .bool x.defd], .pointer (some ⟨B, 0, none⟩)] W fun e W' => e = .returned (.bool (p x)) ∧ Below W.heap.size W W') :
    Calls Try.prog 56 #[.slice a m c, .func (.func 57) #[] #[.pointer (some ⟨B, 0, none⟩)]] w fun e w' => e = .returned (.bool (l.any p)) ∧ Below w.heap.size w w' := by
  have HI := Lib.hid (idxSym B a m c l p w hm hg hl hf)
  have hfi := firstI_any p l
  obtain ⟨q, hq⟩ : ∃ q, firstI p l = q := ⟨_, rfl⟩
  rw [hq] at HI hfi
  rw [← hfi]
  clear hm hg hf hfi hq
  go_enter Try.func56, Try.ntmps56
  go_wp2_with fail
  refine HI.out.mono ?_; rintro e w' ⟨rfl, hb'⟩
  have HB' := Lib.hid hb'
  clear hb'
  go_wp2_with fail
  go_ret
  exact ⟨rfl, HB'.out⟩
set_option maxHeartbeats 1000000 in
theorem idxInt (B : Nat) (a : Option Addr) (m c : Nat) (l : List Int) (p : Int → Bool) (w : World) (hm : l.length = m) (hg : Rd w a m (i64s l)) (hl : m < 9223372036854775808)
    (hf : ∀ W, Below w.heap.size w W → ∀ x ∈ l, Calls Try.prog 60 #[.int .i64 x, .pointer (some ⟨B, 0, none⟩)] W fun e W' => e = .returned (.bool (p x)) ∧ Below W.heap.size W W') :
    Calls Try.prog 72 #[.slice a m c, .func (.func 60) #[] #[.pointer (some ⟨B, 0, none⟩)]] w fun e w' => e = .returned (.int .i64 (firstI p l)) ∧ Below w.heap.size w w' := by
  obtain ⟨r, hr⟩ : ∃ r, firstI p l = r := ⟨_, rfl⟩
  rw [hr]
  have HR := Lib.hid hr
  have HM := Lib.hid hm
  have HG := Lib.hid hg
  have HF := Lib.hid hf
  clear hr hm hg hf
  go_enter Try.func72, Try.ntmps72
  go_wp2_with fail
  go_loopw [8] (fun i wr => ∃ k : Nat, i = .int .i64 k ∧ k ≤ m ∧ Hid (∀ j (h : j < l.length), j < k → p l[j] = false) ∧ Hid (Below w.heap.size w wr)) (fun i _ => m - (intOf i).toNat)
  case atStart => exact ⟨0, rfl, by omega, Lib.hid (fun j h h0 => absurd h0 (by omega)), Lib.hid (Below.refl _ _)⟩
  case round =>
    obtain ⟨k, rfl, hk, HQ, HB⟩ := hrel
    by_cases hlt : k < m
    · have hkl : k < l.length := by rw [HM.out]; exact hlt
      obtain ⟨g, off, hge, -, hc⟩ := (HG.out.below HB.out).at_ hlt
      rw [i64s_get l k hkl] at hc
      subst hge
      have hcall := HF.out wr HB.out _ (List.getElem_mem hkl)
      obtain ⟨x, hx⟩ : ∃ x, l[k] = x := ⟨_, rfl⟩
      have hst : p x = false → ∀ j (h : j < l.length), j < k + 1 → p l[j] = false := fun h j hj hj2 => by
        by_cases e : j = k
        · subst e; rw [hx]; exact h
        · exact HQ.out j hj (by omega)
      have hhit : p x = true → (k : Int) = r := fun h => by
        rw [← HR.out]
        exact (firstI_some hkl (by rw [hx]; exact h) (fun j hj => HQ.out j (by omega) hj)).symm
      rw [hx] at hcall hc
      skip
      have HST := Lib.hid hst
      have HHI := Lib.hid hhit
      obtain ⟨q, hq⟩ : ∃ q, p x = q := ⟨_, rfl⟩
      rw [hq] at hcall HST HHI
      have HC := Lib.hid hcall
      have kk0 : (0 : Int) ≤ (k : Int) := by omega
      have kk1 : (k : Int) < (m : Int) := by omega
      clear hst hhit hkl hx hq hcall
      go_wp2_with fail
      refine HC.out.mono ?_; rintro e w' ⟨rfl, hb'⟩
      have HB' := Lib.hid (bTrans HB.out hb')
      clear hb'
      cases q with
      | true =>
        have hkr := HHI.out rfl
        subst hkr
        go_wp2_with fail
        go_ret
        exact ⟨rfl, HB'.out⟩
      | false =>
        have HN1 := Lib.hid (HST.out rfl)
        go_wp2_with fail
        go_roundw
        case rel => exact ⟨k + 1, by go_num, by omega, HN1, HB'⟩
        case measure => simp [intOf]; omega
    · have hk2 : k = m := by omega
      subst hk2
      have hn1 : (-1 : Int) = r := by
        rw [← HR.out]
        exact (firstI_none (fun j h => HQ.out j h (by rw [HM.out] at h; exact h))).symm
      subst hn1
      go_wp2_with fail
      go_ret
      exact ⟨rfl, HB.out⟩
theorem contInt (B : Nat) (a : Option Addr) (m c : Nat) (l : List Int) (p : Int → Bool) (w : World) (hm : l.length = m) (hg : Rd w a m (i64s l)) (hl : m < 9223372036854775808)
    (hf : ∀ W, Below w.heap.size w W → ∀ x ∈ l, Calls Try.prog 60 #[.int .i64 x, .pointer (some ⟨B, 0, none⟩)] W fun e W' => e = .returned (.bool (p x)) ∧ Below W.heap.size W W') :
    Calls Try.prog 59 #[.slice a m c, .func (.func 60) #[] #[.pointer (some ⟨B, 0, none⟩)]] w fun e w' => e = .returned (.bool (l.any p)) ∧ Below w.heap.size w w' := by
  have HI := Lib.hid (idxInt B a m c l p w hm hg hl hf)
  have hfi := firstI_any p l
  obtain ⟨q, hq⟩ : ∃ q, firstI p l = q := ⟨_, rfl⟩
  rw [hq] at HI hfi
  rw [← hfi]
  clear hm hg hf hfi hq
  go_enter Try.func59, Try.ntmps59
  go_wp2_with fail
  refine HI.out.mono ?_; rintro e w' ⟨rfl, hb'⟩
  have HB' := Lib.hid hb'
  clear hb'
  go_wp2_with fail
  go_ret
  exact ⟨rfl, HB'.out⟩
set_option maxHeartbeats 1000000 in
theorem idxSeg (B B' : Nat) (a : Option Addr) (m c : Nat) (l : List Seg) (p : Seg → Bool) (w : World) (hm : l.length = m) (hg : RdG w a l) (hl : m < 9223372036854775808)
    (hf : ∀ W, Below w.heap.size w W → ∀ x ∈ l, Calls Try.prog 71 #[.agg #[.int .u64 x.place, .int .u64 x.size, .int .i64 x.flags, .slice x.ba x.bytes.length x.bc], .pointer (some ⟨B, 0, none⟩), .pointer (some ⟨B', 0, none⟩)] W fun e W' => e = .returned (.bool (p x)) ∧ Below W.heap.size W W') :
    Calls Try.prog 74 #[.slice a m c, .func (.func 71) #[] #[.pointer (some ⟨B, 0, none⟩), .pointer (some ⟨B', 0, none⟩)]] w fun e w' => e = .returned (.int .i64 (firstI p l)) ∧ Below w.heap.size w w' := by
  obtain ⟨r, hr⟩ : ∃ r, firstI p l = r := ⟨_, rfl⟩
  rw [hr]
  have HR := Lib.hid hr
  have HM := Lib.hid hm
  have HG := Lib.hid hg
  have HF := Lib.hid hf
  clear hr hm hg hf
  go_enter Try.func74, Try.ntmps74
  go_wp2_with fail
  go_loopw [8] (fun i wr => ∃ k : Nat, i = .int .i64 k ∧ k ≤ m ∧ Hid (∀ j (h : j < l.length), j < k → p l[j] = false) ∧ Hid (Below w.heap.size w wr)) (fun i _ => m - (intOf i).toNat)
  case atStart => exact ⟨0, rfl, by omega, Lib.hid (fun j h h0 => absurd h0 (by omega)), Lib.hid (Below.refl _ _)⟩
  case round =>
    obtain ⟨k, rfl, hk, HQ, HB⟩ := hrel
    by_cases hlt : k < m
    · have hkl : k < l.length := by rw [HM.out]; exact hlt
      obtain ⟨g, off, hge, -, hc⟩ := (HG.out.below HB.out).at_ hkl
      subst hge
      have hcall := HF.out wr HB.out _ (List.getElem_mem hkl)
      obtain ⟨x, hx⟩ : ∃ x, l[k] = x := ⟨_, rfl⟩
      have hst : p x = false → ∀ j (h : j < l.length), j < k + 1 → p l[j] = false := fun h j hj hj2 => by
        by_cases e : j = k
        · subst e; rw [hx]; exact h
        · exact HQ.out j hj (by omega)
      have hhit : p x = true → (k : Int) = r := fun h => by
        rw [← HR.out]
        exact (firstI_some hkl (by rw [hx]; exact h) (fun j hj => HQ.out j (by omega) hj)).symm
      rw [hx] at hcall hc
      obtain ⟨c0, c1, c2, c3⟩ := hc
      obtain ⟨e0, he0⟩ : ∃ e, x.place = e := ⟨_, rfl⟩
      rw [he0] at hcall c0
      clear he0
      obtain ⟨e1, he1⟩ : ∃ e, x.size = e := ⟨_, rfl⟩
      rw [he1] at hcall c1
      clear he1
      obtain ⟨e2, he2⟩ : ∃ e, x.flags = e := ⟨_, rfl⟩
      rw [he2] at hcall c2
      clear he2
      obtain ⟨e3, he3⟩ : ∃ e, x.ba = e := ⟨_, rfl⟩
      rw [he3] at hcall c3
      clear he3
      obtain ⟨e4, he4⟩ : ∃ e, x.bytes.length = e := ⟨_, rfl⟩
      rw [he4] at hcall c3
      clear he4
      obtain ⟨e5, he5⟩ : ∃ e, x.bc = e := ⟨_, rfl⟩
      rw [he5] at hcall c3
      clear he5
      have HST := Lib.hid hst
      have HHI := Lib.hid hhit
      obtain ⟨q, hq⟩ : ∃ q, p x = q := ⟨_, rfl⟩
      rw [hq] at hcall HST HHI
      have HC := Lib.hid hcall
      have kk0 : (0 : Int) ≤ (k : Int) := by omega
      have kk1 : (k : Int) < (m : Int) := by omega
      clear hst hhit hkl hx hq hcall
      go_wp2_with fail
      refine HC.out.mono ?_; rintro e w' ⟨rfl, hb'⟩
      have HB' := Lib.hid (bTrans HB.out hb')
      clear hb'
      cases q with
      | true =>
        have hkr := HHI.out rfl
        subst hkr
        go_wp2_with fail
        go_ret
        exact ⟨rfl, HB'.out⟩
      | false =>
        have HN1 := Lib.hid (HST.out rfl)
        go_wp2_with fail
        go_roundw
        case rel => exact ⟨k + 1, by go_num, by omega, HN1, HB'⟩
        case measure => simp [intOf]; omega
    · have hk2 : k = m := by omega
      subst hk2
      have hn1 : (-1 : Int) = r := by
        rw [← HR.out]
        exact (firstI_none (fun j h => HQ.out j h (by rw [HM.out] at h; exact h))).symm
      subst hn1
      go_wp2_with fail
      go_ret
      exact ⟨rfl, HB.out⟩
theorem contSeg (B B' : Nat) (a : Option Addr) (m c : Nat) (l : List Seg) (p : Seg → Bool) (w : World) (hm : l.length = m) (hg : RdG w a l) (hl : m < 9223372036854775808)
    (hf : ∀ W, Below w.heap.size w W → ∀ x ∈ l, Calls Try.prog 71 #[.agg #[.int .u64 x.place, .int .u64 x.size, .int .i64 x.flags, .slice x.ba x.bytes.length x.bc], .pointer (some ⟨B, 0, none⟩), .pointer (some ⟨B', 0, none⟩)] W fun e W' => e = .returned (.bool (p x)) ∧ Below W.heap.size W W') :
    Calls Try.prog 70 #[.slice a m c, .func (.func 71) #[] #[.pointer (some ⟨B, 0, none⟩), .pointer (some ⟨B', 0, none⟩)]] w fun e w' => e = .returned (.bool (l.any p)) ∧ Below w.heap.size w w' := by
  have HI := Lib.hid (idxSeg B B' a m c l p w hm hg hl hf)
  have hfi := firstI_any p l
  obtain ⟨q, hq⟩ : ∃ q, firstI p l = q := ⟨_, rfl⟩
  rw [hq] at HI hfi
  rw [← hfi]
  clear hm hg hf hfi hq
  go_enter Try.func70, Try.ntmps70
  go_wp2_with fail
  refine HI.out.mono ?_; rintro e w' ⟨rfl, hb'⟩
  have HB' := Lib.hid hb'
  clear hb'
  go_wp2_with fail
  go_ret
  exact ⟨rfl, HB'.out⟩
set_option maxHeartbeats 1000000 in
theorem allSym (O : Nat) (a : Option Addr) (m c : Nat) (l : List Sym) (p : Sym → Bool) (w : World) (hm : l.length = m) (hg : RdS w a l) (hl : m < 9223372036854775808)
    (hf : ∀ W, Below w.heap.size w W → ∀ x ∈ l, Calls Try.prog 29 #[.agg #[.string ⟨x.name.toArray⟩, .string ⟨x.ver.toArray⟩, .int .u64 x.place, .int .u64 x.size, .int .i64 x.kind, .int .i64 x.bind, .int .i64 x.seen, .bool x.defd], .pointer (some ⟨O, 0, none⟩)] W fun e W' => e = .returned (.bool (p x)) ∧ Below W.heap.size W W') :
    Calls Try.prog 28 #[.slice a m c, .func (.func 29) #[] #[.pointer (some ⟨O, 0, none⟩)]] w fun e w' => e = .returned (.bool (l.all p)) ∧ Below w.heap.size w w' := by
  have hlam : ∀ W, Below (w.alloc (.cells #[.func (.func 29) #[] #[.pointer (some ⟨O, 0, none⟩)]] 66)).heap.size (w.alloc (.cells #[.func (.func 29) #[] #[.pointer (some ⟨O, 0, none⟩)]] 66)) W → ∀ x ∈ l, Calls Try.prog 57 #[.agg #[.string ⟨x.name.toArray⟩, .string ⟨x.ver.toArray⟩, .int .u64 x.place, .int .u64 x.size, .int .i64 x.kind, .int .i64 x.bind, .int .i64 x.seen, .bool x.defd], .pointer (some ⟨w.heap.size, 0, none⟩)] W fun e W' => e = .returned (.bool (!p x)) ∧ Below W.heap.size W W' := by
    intro W hW x hx
    have d0 : W.cell? ⟨w.heap.size, 0, none⟩ = some (.func (.func 29) #[] #[.pointer (some ⟨O, 0, none⟩)]) := box_cell hW 0 rfl
    have hsz : w.heap.size < W.heap.size := by have := hW.size; rw [size_alloc] at this; omega
    skip
    have HC := Lib.hid (fun W' (hb : Below W.heap.size W W') => hf W' (bTrans (bTrans (bAlloc (Below.refl _ _) _) hW) hb) x hx)
    obtain ⟨q, hq⟩ : ∃ q, p x = q := ⟨_, rfl⟩
    rw [hq] at HC ⊢
    obtain ⟨e0, he0⟩ : ∃ e, x.name = e := ⟨_, rfl⟩
    rw [he0] at HC ⊢
    clear he0
    obtain ⟨e1, he1⟩ : ∃ e, x.ver = e := ⟨_, rfl⟩
    rw [he1] at HC ⊢
    clear he1
    obtain ⟨e2, he2⟩ : ∃ e, x.place = e := ⟨_, rfl⟩
    rw [he2] at HC ⊢
    clear he2
    obtain ⟨e3, he3⟩ : ∃ e, x.size = e := ⟨_, rfl⟩
    rw [he3] at HC ⊢
    clear he3
    obtain ⟨e4, he4⟩ : ∃ e, x.kind = e := ⟨_, rfl⟩
    rw [he4] at HC ⊢
    clear he4
    obtain ⟨e5, he5⟩ : ∃ e, x.bind = e := ⟨_, rfl⟩
    rw [he5] at HC ⊢
    clear he5
    obtain ⟨e6, he6⟩ : ∃ e, x.seen = e := ⟨_, rfl⟩
    rw [he6] at HC ⊢
    clear he6
    obtain ⟨e7, he7⟩ : ∃ e, x.defd = e := ⟨_, rfl⟩
    rw [he7] at HC ⊢
    clear he7
    have d1 : (W.alloc (.cells #[.string ⟨e0.toArray⟩, .string ⟨e1.toArray⟩, .int .u64 e2, .int .u64 e3, .int .i64 e4, .int .i64 e5, .int .i64 e6, .bool e7] 42)).cell? ⟨w.heap.size, 0, none⟩ = some (.func (.func 29) #[] #[.pointer (some ⟨O, 0, none⟩)]) := ((bAlloc (Below.refl W.heap.size W) _).cell (p := ⟨w.heap.size, 0, none⟩) hsz).trans d0
    clear hm hg hl hf hq hx
    go_enter Try.func57, Try.ntmps57
    go_wp2_with fail
    refine (HC.out _ (bAlloc (Below.refl _ _) _)).mono ?_; rintro e w' ⟨rfl, hb'⟩
    have HB' := Lib.hid (bTrans (bAlloc (Below.refl _ _) _) hb')
    clear hb'
    go_wp2_with fail
    go_ret
    exact ⟨rfl, HB'.out⟩
  have HC := Lib.hid (contSym w.heap.size a m c l (fun x => !p x) (w.alloc (.cells #[.func (.func 29) #[] #[.pointer (some ⟨O, 0, none⟩)]] 66)) hm (hg.below (bAlloc (Below.refl _ _) _)) hl hlam)
  have he : l.all p = !l.any (fun x => !p x) := by rw [Bool.eq_iff_iff]; simp
  obtain ⟨q, hq⟩ : ∃ q, l.any (fun x => !p x) = q := ⟨_, rfl⟩
  rw [hq] at HC he
  rw [he]
  clear hlam hm hg hl hf he hq
  go_enter Try.func28, Try.ntmps28
  go_wp2_with fail
  refine HC.out.mono ?_; rintro e w' ⟨rfl, hb'⟩
  have HB' := Lib.hid (bTrans (bAlloc (Below.refl _ _) (.cells #[.func (.func 29) #[] #[.pointer (some ⟨O, 0, none⟩)]] 66)) hb')
  clear hb'
  go_wp2_with fail
  go_ret
  exact ⟨rfl, HB'.out⟩
set_option maxHeartbeats 1000000 in
theorem allInt2 (O : Nat) (a : Option Addr) (m c : Nat) (l : List Int) (p : Int → Bool) (w : World) (hm : l.length = m) (hg : Rd w a m (i64s l)) (hl : m < 9223372036854775808)
    (hf : ∀ W, Below w.heap.size w W → ∀ x ∈ l, Calls Try.prog 33 #[.int .i64 x, .pointer (some ⟨O, 0, none⟩)] W fun e W' => e = .returned (.bool (p x)) ∧ Below W.heap.size W W') :
    Calls Try.prog 32 #[.slice a m c, .func (.func 33) #[] #[.pointer (some ⟨O, 0, none⟩)]] w fun e w' => e = .returned (.bool (l.all p)) ∧ Below w.heap.size w w' := by
  have hlam : ∀ W, Below (w.alloc (.cells #[.func (.func 33) #[] #[.pointer (some ⟨O, 0, none⟩)]] 69)).heap.size (w.alloc (.cells #[.func (.func 33) #[] #[.pointer (some ⟨O, 0, none⟩)]] 69)) W → ∀ x ∈ l, Calls Try.prog 60 #[.int .i64 x, .pointer (some ⟨w.heap.size, 0, none⟩)] W fun e W' => e = .returned (.bool (!p x)) ∧ Below W.heap.size W W' := by
    intro W hW x hx
    have d0 : W.cell? ⟨w.heap.size, 0, none⟩ = some (.func (.func 33) #[] #[.pointer (some ⟨O, 0, none⟩)]) := box_cell hW 0 rfl
    have hsz : w.heap.size < W.heap.size := by have := hW.size; rw [size_alloc] at this; omega
    skip
    have HC := Lib.hid (fun W' (hb : Below W.heap.size W W') => hf W' (bTrans (bTrans (bAlloc (Below.refl _ _) _) hW) hb) x hx)
    obtain ⟨q, hq⟩ : ∃ q, p x = q := ⟨_, rfl⟩
    rw [hq] at HC ⊢
    skip
    skip
    clear hm hg hl hf hq hx
    go_enter Try.func60, Try.ntmps60
    go_wp2_with fail
    refine (HC.out _ (Below.refl _ _)).mono ?_; rintro e w' ⟨rfl, hb'⟩
    have HB' := Lib.hid (bTrans (Below.refl _ _) hb')
    clear hb'
    go_wp2_with fail
    go_ret
    exact ⟨rfl, HB'.out⟩
  have HC := Lib.hid (contInt w.heap.size a m c l (fun x => !p x) (w.alloc (.cells #[.func (.func 33) #[] #[.pointer (some ⟨O, 0, none⟩)]] 69)) hm (hg.below (bAlloc (Below.refl _ _) _)) hl hlam)
  have he : l.all p = !l.any (fun x => !p x) := by rw [Bool.eq_iff_iff]; simp
  obtain ⟨q, hq⟩ : ∃ q, l.any (fun x => !p x) = q := ⟨_, rfl⟩
  rw [hq] at HC he
  rw [he]
  clear hlam hm hg hl hf he hq
  go_enter Try.func32, Try.ntmps32
  go_wp2_with fail
  refine HC.out.mono ?_; rintro e w' ⟨rfl, hb'⟩
  have HB' := Lib.hid (bTrans (bAlloc (Below.refl _ _) (.cells #[.func (.func 33) #[] #[.pointer (some ⟨O, 0, none⟩)]] 69)) hb')
  clear hb'
  go_wp2_with fail
  go_ret
  exact ⟨rfl, HB'.out⟩
set_option maxHeartbeats 1000000 in
theorem allInt3 (O : Nat) (a : Option Addr) (m c : Nat) (l : List Int) (p : Int → Bool) (w : World) (hm : l.length = m) (hg : Rd w a m (i64s l)) (hl : m < 9223372036854775808)
    (hf : ∀ W, Below w.heap.size w W → ∀ x ∈ l, Calls Try.prog 35 #[.int .i64 x, .pointer (some ⟨O, 0, none⟩)] W fun e W' => e = .returned (.bool (p x)) ∧ Below W.heap.size W W') :
    Calls Try.prog 32 #[.slice a m c, .func (.func 35) #[] #[.pointer (some ⟨O, 0, none⟩)]] w fun e w' => e = .returned (.bool (l.all p)) ∧ Below w.heap.size w w' := by
  have hlam : ∀ W, Below (w.alloc (.cells #[.func (.func 35) #[] #[.pointer (some ⟨O, 0, none⟩)]] 69)).heap.size (w.alloc (.cells #[.func (.func 35) #[] #[.pointer (some ⟨O, 0, none⟩)]] 69)) W → ∀ x ∈ l, Calls Try.prog 60 #[.int .i64 x, .pointer (some ⟨w.heap.size, 0, none⟩)] W fun e W' => e = .returned (.bool (!p x)) ∧ Below W.heap.size W W' := by
    intro W hW x hx
    have d0 : W.cell? ⟨w.heap.size, 0, none⟩ = some (.func (.func 35) #[] #[.pointer (some ⟨O, 0, none⟩)]) := box_cell hW 0 rfl
    have hsz : w.heap.size < W.heap.size := by have := hW.size; rw [size_alloc] at this; omega
    skip
    have HC := Lib.hid (fun W' (hb : Below W.heap.size W W') => hf W' (bTrans (bTrans (bAlloc (Below.refl _ _) _) hW) hb) x hx)
    obtain ⟨q, hq⟩ : ∃ q, p x = q := ⟨_, rfl⟩
    rw [hq] at HC ⊢
    skip
    skip
    clear hm hg hl hf hq hx
    go_enter Try.func60, Try.ntmps60
    go_wp2_with fail
    refine (HC.out _ (Below.refl _ _)).mono ?_; rintro e w' ⟨rfl, hb'⟩
    have HB' := Lib.hid (bTrans (Below.refl _ _) hb')
    clear hb'
    go_wp2_with fail
    go_ret
    exact ⟨rfl, HB'.out⟩
  have HC := Lib.hid (contInt w.heap.size a m c l (fun x => !p x) (w.alloc (.cells #[.func (.func 35) #[] #[.pointer (some ⟨O, 0, none⟩)]] 69)) hm (hg.below (bAlloc (Below.refl _ _) _)) hl hlam)
  have he : l.all p = !l.any (fun x => !p x) := by rw [Bool.eq_iff_iff]; simp
  obtain ⟨q, hq⟩ : ∃ q, l.any (fun x => !p x) = q := ⟨_, rfl⟩
  rw [hq] at HC he
  rw [he]
  clear hlam hm hg hl hf he hq
  go_enter Try.func32, Try.ntmps32
  go_wp2_with fail
  refine HC.out.mono ?_; rintro e w' ⟨rfl, hb'⟩
  have HB' := Lib.hid (bTrans (bAlloc (Below.refl _ _) (.cells #[.func (.func 35) #[] #[.pointer (some ⟨O, 0, none⟩)]] 69)) hb')
  clear hb'
  go_wp2_with fail
  go_ret
  exact ⟨rfl, HB'.out⟩
end Go.Proofs.Ytknldomgmogccaa
