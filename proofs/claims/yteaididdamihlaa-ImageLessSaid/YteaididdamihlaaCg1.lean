/- Merged: CgA CgB CgC CgD CgH CgI CgL. -/
import Derived.Test.YteaididdamihlaaCe1
import Derived.Test.YteaididdamihlaaCe2
import Derived.Deep.RegionHeld3
import Derived.Deep.RegionLaw
import Derived.Deep.RegionWith
import Derived.Deep.Cut
import Derived.BigRegion
import Derived.Deep.QuietTactic
import Derived.BigQuiet
import Derived.Deep.CutBlock
namespace Go.Proofs.Yteaididdamihlaa.Ce
set_option linter.unusedVariables false
set_option linter.unusedSimpArgs false
open Go.Joins Go.ChangeShapes Go.WideShapes Go.ChangeAt Go.RowKit

set_option maxHeartbeats 4000000 in
theorem rname_any (s : List UInt8) (w : World) (hs : s.length < 9223372036854775808) :
    Calls Try.prog 50 #[.string ⟨s.toArray⟩] w fun e w' => e = .returned (.bool (nameB s)) ∧ w = w' := by
  obtain ⟨r, hr⟩ : ∃ r, nameB s = r := ⟨_, rfl⟩
  have HR := Lib.hid hr
  rw [hr]
  clear hr
  go_enter Try.func50, Try.ntmps50
  go_wp2_with fail
  go_loop [3] (fun i => ∃ k : Nat, k ≤ s.length ∧ i = .int .i64 k ∧ Hid ((s.take k).all (fun c => chB c.toNat) = true)) (fun i => s.length - (intOf i).toNat)
  case atStart => exact ⟨0, by omega, rfl, Lib.hid rfl⟩
  case round =>
    obtain ⟨k, hk, rfl, HP⟩ := hrel
    by_cases h : k < s.length
    · have hst : (s.take (k + 1)).all (fun c => chB c.toNat) = ((s.take k).all (fun c => chB c.toNat) && chB s[k].toNat) := all_take (fun c => chB c.toNat) s k h
      have hmi : chB s[k].toNat = false → s.all (fun c => chB c.toNat) = false := all_miss (fun c => chB c.toNat) s k h
      have hc := UInt8.toNat_lt s[k]
      rw [HP.out, Bool.true_and] at hst
      obtain ⟨c, hcc⟩ : ∃ c, s[k].toNat = c := ⟨_, rfl⟩
      rw [hcc] at hst hmi hc
      have hce : ((ByteArray.mk s.toArray)[k]'h).toNat = c := hcc
      have HST := Lib.hid hst
      have HMI := Lib.hid hmi
      clear hst hmi hcc
      go_wp2_with fail
      all_goals first
        | (have hq : chB c = true := by
            (try simp only [Bool.not_eq_true', Bool.not_eq_false', decide_eq_true_eq, decide_eq_false_iff_not, bne_iff_ne, ne_eq, bne_eq_false_iff_eq, beq_iff_eq, beq_eq_false_iff_ne] at *)
            unfold chB
            simp only [Bool.or_eq_true, Bool.and_eq_true, decide_eq_true_eq, beq_iff_eq]
            omega
           refine ⟨⟨k + 1, by omega, by go_num, Lib.hid (HST.out.trans hq)⟩, ?_⟩
           simp [intOf]
           omega)
        | (have hq : chB c = false := by
            (try simp only [Bool.not_eq_true', Bool.not_eq_false', decide_eq_true_eq, decide_eq_false_iff_not, bne_iff_ne, ne_eq, bne_eq_false_iff_eq, beq_iff_eq, beq_eq_false_iff_ne] at *)
            rw [Bool.eq_false_iff]
            intro hh
            unfold chB at hh
            simp only [Bool.or_eq_true, Bool.and_eq_true, decide_eq_true_eq, beq_iff_eq] at hh
            omega
           go_ret
           exact ⟨ret_bool (by rw [← HR.out]; unfold nameB; rw [HMI.out hq]; rfl), rfl⟩)
    · obtain rfl : k = s.length := by omega
      have ha := HP.out
      rw [List.take_length] at ha
      have HRR : Hid (r = (decide (1 ≤ s.length) && decide (s.length ≤ 30))) := Lib.hid (by rw [← HR.out]; unfold nameB; rw [ha, Bool.true_and])
      clear ha HP HR
      obtain ⟨n, hn⟩ : ∃ n, s.length = n := ⟨_, rfl⟩
      go_wp2_with fail
      all_goals (go_ret; exact ⟨ret_bool (by rw [HRR.out, hn, Bool.eq_iff_iff]; simp; try omega), rfl⟩)
theorem boxN_alloc {W : World} {B : Nat} {cs : Array Value} (h : BoxN W B cs) (o : Obj) : BoxN (W.alloc o) B cs := h.below (bAlloc (Below.refl _ _) o) h.lt
theorem boxN_below {W W' : World} {B : Nat} {cs : Array Value} (h : BoxN W B cs) (hb : Below W.heap.size W W') : BoxN W' B cs := h.below hb h.lt
set_option maxHeartbeats 2000000 in
theorem rat_any (v0 v1 v3 v4 v5 v6 : Value) (ga : Option Addr) (m gc : Nat) (l : List Seg) (x n : Int) (w : World) (hm : l.length = m) (hg : RdG w ga l) (hl : m < 9223372036854775808) (hb : ∀ s ∈ l, u64B s.place ∧ u64B s.size) (hx : u64B x) (hn : u64B n) :
    Calls Try.prog 51 #[.agg #[v0, v1, .slice ga m gc, v3, v4, v5, v6], .int .u64 x, .int .u64 n] w fun e w' => e = .returned (.int .i64 (atF l x n)) ∧ Below w.heap.size w w' := by
  obtain ⟨r, hr⟩ : ∃ r, atF l x n = r := ⟨_, rfl⟩
  rw [hr]
  have HR := Lib.hid hr
  have HM := Lib.hid hm
  have HG := Lib.hid hg
  have HBD := Lib.hid hb
  obtain ⟨x0, x1⟩ := hx
  obtain ⟨n0, n1⟩ := hn
  clear hr hm hg hb
  go_enter Try.func51, Try.ntmps51
  go_wp2_with fail
  go_loopw [7] (fun i wr => ∃ k : Nat, i = .int .i64 k ∧ k ≤ m ∧ Hid (∀ j (h : j < l.length), j < k → hasB l[j] x n = false) ∧ Hid (Below w.heap.size w wr) ∧ Hid (BoxN wr w.heap.size #[v0, v1, .slice ga m gc, v3, v4, v5, v6])) (fun i _ => m - (intOf i).toNat)
  case atStart => exact ⟨0, rfl, by omega, Lib.hid (fun j h h0 => absurd h0 (by omega)), Lib.hid (bAlloc (Below.refl _ _) _), Lib.hid (BoxN.new w _ _)⟩
  case round =>
    obtain ⟨k, rfl, hk, HQ, HWB, HBX⟩ := hrel
    have o2 : wr.cell? ⟨w.heap.size, 2, none⟩ = some (.slice ga m gc) := HBX.out.cell 2
    by_cases hlt : k < m
    · have hkl : k < l.length := by rw [HM.out]; exact hlt
      obtain ⟨g, off, hge, -, hc⟩ := (HG.out.below HWB.out).at_ hkl
      subst hge
      have hbd := HBD.out _ (List.getElem_mem hkl)
      obtain ⟨s, hs⟩ : ∃ s, l[k] = s := ⟨_, rfl⟩
      have hst : hasB s x n = false → ∀ j (h : j < l.length), j < k + 1 → hasB l[j] x n = false := fun h j hj hj2 => by
        by_cases e : j = k
        · subst e; rw [hs]; exact h
        · exact HQ.out j hj (by omega)
      have hhit : hasB s x n = true → (k : Int) = r := fun h => by
        rw [← HR.out]
        exact (firstI_some hkl (by show hasB l[k] x n = true; rw [hs]; exact h) (fun j hj => HQ.out j (by omega) hj)).symm
      rw [hs] at hc hbd
      obtain ⟨c0, c1, c2, c3⟩ := hc
      have HST := Lib.hid hst
      have HHI := Lib.hid hhit
      obtain ⟨⟨p0, p1⟩, ⟨z0, z1⟩⟩ := hbd
      have hhb : hasB s x n = (decide (s.place ≤ x) && (decide (x - s.place ≤ s.size) && decide (n ≤ s.size - (x - s.place)))) := rfl
      obtain ⟨q, hq⟩ : ∃ q, hasB s x n = q := ⟨_, rfl⟩
      rw [hq] at HST HHI hhb
      obtain ⟨e0, he0⟩ : ∃ e, s.place = e := ⟨_, rfl⟩
      obtain ⟨e1, he1⟩ : ∃ e, s.size = e := ⟨_, rfl⟩
      obtain ⟨e2, he2⟩ : ∃ e, s.flags = e := ⟨_, rfl⟩
      obtain ⟨e3, he3⟩ : ∃ e, s.ba = e := ⟨_, rfl⟩
      obtain ⟨e4, he4⟩ : ∃ e, s.bytes.length = e := ⟨_, rfl⟩
      obtain ⟨e5, he5⟩ : ∃ e, s.bc = e := ⟨_, rfl⟩
      rw [he0] at c0 p0 p1 hhb
      rw [he1] at c1 z0 z1 hhb
      rw [he2] at c2
      rw [he3, he4, he5] at c3
      have kk0 : (0 : Int) ≤ (k : Int) := by omega
      have kk1 : (k : Int) < (m : Int) := by omega
      have HHB := Lib.hid hhb
      clear hst hhit hkl hs hq he0 he1 he2 he3 he4 he5 hhb
      by_cases c1' : e0 ≤ x
      · have w1 : IntKind.u64.wrap (x - e0) = x - e0 := by rw [IntKind.wrap_u64]; omega
        have c1n : ¬ x < e0 := by omega
        by_cases c2' : x - e0 ≤ e1
        · have w2 : IntKind.u64.wrap (e1 - (x - e0)) = e1 - (x - e0) := by rw [IntKind.wrap_u64]; omega
          by_cases c3' : n ≤ e1 - (x - e0)
          · have hqt : q = true := by rw [HHB.out, decide_eq_true c1', decide_eq_true c2', decide_eq_true c3']; rfl
            have hkr := HHI.out hqt
            subst hkr
            go_wp2_with fail
            go_ret
            exact ⟨rfl, bAlloc HWB.out _⟩
          · have hqf : q = false := by rw [HHB.out, decide_eq_false c3']; simp
            have HN1 := Lib.hid (HST.out hqf)
            go_wp2_with fail
            go_roundw
            case rel => exact ⟨k + 1, by go_num, by omega, HN1, Lib.hid (bAlloc HWB.out _), Lib.hid (boxN_alloc HBX.out _)⟩
            case measure => simp [intOf]; omega
        · have hqf : q = false := by rw [HHB.out, decide_eq_false c2']; simp
          have HN1 := Lib.hid (HST.out hqf)
          go_wp2_with fail
          go_roundw
          case rel => exact ⟨k + 1, by go_num, by omega, HN1, Lib.hid (bAlloc HWB.out _), Lib.hid (boxN_alloc HBX.out _)⟩
          case measure => simp [intOf]; omega
      · have c1n : x < e0 := by omega
        have hqf : q = false := by rw [HHB.out, decide_eq_false c1']; rfl
        have HN1 := Lib.hid (HST.out hqf)
        go_wp2_with fail
        go_roundw
        case rel => exact ⟨k + 1, by go_num, by omega, HN1, Lib.hid (bAlloc HWB.out _), Lib.hid (boxN_alloc HBX.out _)⟩
        case measure => simp [intOf]; omega
    · have hk2 : k = m := by omega
      subst hk2
      have hn1 : (-1 : Int) = r := by
        rw [← HR.out]
        exact (firstI_none (fun j h => HQ.out j h (by rw [HM.out] at h; exact h))).symm
      subst hn1
      go_wp2_with fail
      go_ret
      exact ⟨rfl, HWB.out⟩
set_option maxHeartbeats 1000000 in
theorem rroom_any (v0 v1 v2 v4 v5 v6 : Value) (sa : Option Addr) (m sc : Nat) (l : List Sym) (n : Nat) (w : World) (hm : l.length = m) (hg : RdS w sa l) (hl : m < 9223372036854775808) (hn : n < m) :
    Calls Try.prog 52 #[.agg #[v0, v1, v2, .slice sa m sc, v4, v5, v6], .int .i64 (n : Int)] w fun e w' => e = .returned (.int .u64 (roomZ l (n : Int))) ∧ Below w.heap.size w w' := by
  have hkl : n < l.length := by rw [hm]; omega
  obtain ⟨g, off, hge, -, c0, c1, c2, c3, c4, c5, c6, c7⟩ := (hg.below (bAlloc (Below.refl _ _) (.cells #[v0, v1, v2, .slice sa m sc, v4, v5, v6] 28))).at_ hkl
  subst hge
  have hr : roomZ l (n : Int) = if l[n].kind = 1 then 64 else 32 := by
    unfold roomZ kindAt
    rw [Int.toNat_natCast, List.getElem?_eq_getElem hkl]
  obtain ⟨e4, he4⟩ : ∃ e, l[n].kind = e := ⟨_, rfl⟩
  rw [he4] at c4 hr
  obtain ⟨r, hr2⟩ : ∃ r, roomZ l (n : Int) = r := ⟨_, rfl⟩
  rw [hr2] at hr ⊢
  have kk0 : (0 : Int) ≤ (n : Int) := by omega
  have kk1 : (n : Int) < (m : Int) := by omega
  clear hr2 hm hg he4 c0 c1 c2 c3 c5 c6 c7 hkl
  by_cases h1 : e4 = 1
  · rw [if_pos h1] at hr
    subst hr
    subst h1
    go_enter Try.func52, Try.ntmps52
    go_wp2_with fail
    go_ret
    exact ⟨rfl, bAlloc (Below.refl _ _) _⟩
  · rw [if_neg h1] at hr
    subst hr
    go_enter Try.func52, Try.ntmps52
    go_wp2_with fail
    go_ret
    exact ⟨rfl, bAlloc (Below.refl _ _) _⟩
end Go.Proofs.Yteaididdamihlaa.Ce

namespace Go.Proofs.Yteaididdamihlaa.Ce
set_option linter.unusedVariables false
set_option linter.unusedSimpArgs false
open Go.Joins Go.ChangeShapes Go.WideShapes Go.ChangeAt Go.RowKit Go.Deep

theorem cell_below {W W' : World} {p : Addr} {v : Value} (hb : Below W.heap.size W W') (h : W.cell? p = some v) : W'.cell? p = some v := (hb.cell (heap_lt_of_cell h)).trans h
theorem below_dN (w : World) (n : Nat) : Below w.heap.size w (w.drewN n) := ⟨rfl, rfl, rfl, Nat.le_refl _, fun _ _ => rfl⟩
theorem contains_false {l : List (List UInt8)} {k : Nat} {y : List UInt8} (hk : k ≤ l.length) (h : ∀ j (h : j < l.length), j < k → ¬ l[j] = y) : (l.take k).contains y = false := by
  rw [Bool.eq_false_iff]
  intro hc
  rw [List.contains_iff_mem] at hc
  obtain ⟨j, hj, e⟩ := List.getElem_of_mem hc
  rw [List.length_take] at hj
  rw [List.getElem_take] at e
  exact h j (by omega) (by omega) e
theorem contains_true {l : List (List UInt8)} {k j : Nat} {y : List UInt8} (hj : j < l.length) (hjk : j < k) (e : l[j] = y) : (l.take k).contains y = true := by
  rw [List.contains_iff_mem]
  rw [← e]
  exact List.mem_iff_getElem.2 ⟨j, by rw [List.length_take]; omega, by rw [List.getElem_take]⟩
set_option maxHeartbeats 4000000 in
theorem rnames_any (v2 v3 v4 v5 v6 : Value) (na : Option Addr) (m nc : Nat) (name : List UInt8) (l : List (List UInt8)) (w : World) (hm : l.length = m) (hg : Rd w na m (txs l)) (hl2 : m < 9223372036854775808) (hname : name.length < 9223372036854775808) (hns : ∀ n ∈ l, n.length < 9223372036854775808) :
    Calls Try.prog 34 #[.agg #[.string ⟨name.toArray⟩, .slice na m nc, v2, v3, v4, v5, v6]] w fun e w' => e = .returned (.bool (nameB name && needsB name l 0)) ∧ Below w.heap.size w w' := by
  obtain ⟨r, hr⟩ : ∃ r, (nameB name && needsB name l 0) = r := ⟨_, rfl⟩
  rw [hr]
  have HN0 := Lib.hid (fun W => rname_any name W hname)
  obtain ⟨q0, hq0⟩ : ∃ q, nameB name = q := ⟨_, rfl⟩
  rw [hq0] at HN0 hr
  have HM := Lib.hid hm
  have HNS := Lib.hid hns
  obtain ⟨W, hW⟩ : ∃ W, w.alloc (.cells #[.string ⟨name.toArray⟩, .slice na m nc, v2, v3, v4, v5, v6] 28) = W := ⟨_, rfl⟩
  have hbx : BoxN W w.heap.size #[.string ⟨name.toArray⟩, .slice na m nc, v2, v3, v4, v5, v6] := by rw [← hW]; exact BoxN.new w _ _
  have hbw : Below w.heap.size w W := by rw [← hW]; exact bAlloc (Below.refl _ _) _
  have HG := Lib.hid (Rd.below hg hbw)
  have HB := Lib.hid hbw
  have o0 : W.cell? ⟨w.heap.size, 0, none⟩ = some (.string ⟨name.toArray⟩) := hbx.cell 0
  have o1 : W.cell? ⟨w.heap.size, 1, none⟩ = some (.slice na m nc) := hbx.cell 1
  have HR := Lib.hid hr
  clear hm hg hns hq0 hbx hbw hr
  go_enter Try.func34, Try.ntmps34
  go_upto_region 1 with fail
  clear hW
  go_wp2_with fail
  refine (HN0.out _).mono ?_; rintro e w' ⟨rfl, rfl⟩
  cases q0 with
  | false =>
    have : false = r := HR.out
    subst this
    go_wp2_with fail
    go_ret
    exact ⟨rfl, HB.out⟩
  | true =>
    have HR2 : Hid (needsB name l 0 = r) := Lib.hid (by have := HR.out; rwa [Bool.true_and] at this)
    clear HR
    go_wp2_with fail
    go_loopw [4] (fun i wr => ∃ k : Nat, i = .int .i64 k ∧ k ≤ m ∧ Hid (needsB name l k = r) ∧ Hid (Below W.heap.size W wr)) (fun i _ => m - (intOf i).toNat)
    case atStart => exact ⟨0, rfl, by omega, HR2, Lib.hid (Below.refl _ _)⟩
    case round =>
      obtain ⟨k, rfl, hk, HQ, HBW⟩ := hrel
      have p0 := cell_below HBW.out o0
      have p1 := cell_below HBW.out o1
      by_cases hlt : k < m
      · have hkl : k < l.length := by rw [HM.out]; exact hlt
        obtain ⟨g, off, hge, -, hc⟩ := HG.out.at_ hlt
        rw [txs_get l k hkl] at hc
        have hcw := cell_below HBW.out hc
        have hq := HQ.out
        rw [needsB_step name l k hkl] at hq
        have HN1 := Lib.hid (fun W => rname_any l[k] W (HNS.out _ (List.getElem_mem hkl)))
        obtain ⟨y, hy⟩ : ∃ y, l[k] = y := ⟨_, rfl⟩
        rw [hy] at hc hcw hq HN1
        obtain ⟨q1, hq1⟩ : ∃ q, nameB y = q := ⟨_, rfl⟩
        rw [hq1] at HN1 hq
        have HQ1 := Lib.hid hq
        have kk0 : (0 : Int) ≤ (k : Int) := by omega
        have kk1 : (k : Int) < (m : Int) := by omega
        subst hge
        clear hq hkl hy hq1 HQ
        go_wp2_with fail
        refine (HN1.out _).mono ?_; rintro e w' ⟨rfl, rfl⟩
        cases q1 with
        | false =>
          have : false = r := HQ1.out
          subst this
          go_wp2_with fail
          go_quiet (fail)
          go_wp2_with fail
          go_ret
          exact ⟨rfl, bTrans HB.out (bTrans HBW.out (below_dN _ _))⟩
        | true =>
          by_cases hyn : y = name
          · have : false = r := by rw [← HQ1.out, hyn]; simp
            subst this
            subst hyn
            go_wp2_with fail
            go_quiet (fail)
            go_wp2_with fail
            go_ret
            exact ⟨rfl, bTrans HB.out (bTrans HBW.out (below_dN _ _))⟩
          · have HQ2 : Hid ((!(l.take k).contains y && needsB name l (k + 1)) = r) := Lib.hid (by have := HQ1.out; rw [show (y != name) = true by simp [hyn]] at this; simpa using this)
            have hyb : (y == name) = false := by simp [hyn]
            clear HQ1
            go_wp2_with fail
            go_quiet (fail)
            have HBU := Lib.hid (bTrans HBW.out (below_dN wr nq))
            obtain ⟨U, hU⟩ : ∃ U, wr.drewN nq = U := ⟨_, rfl⟩
            rw [hU] at HBU ⊢
            clear hU p0 p1 hcw HBW
            go_wp2_with fail
            go_loopw [6] (fun i wq => ∃ j : Nat, i = .int .i64 j ∧ j ≤ k ∧ Hid (∀ a (h : a < l.length), a < j → ¬ l[a] = y) ∧ Hid (Below W.heap.size W wq)) (fun i _ => k - (intOf i).toNat)
            case atStart => exact ⟨0, rfl, by omega, Lib.hid (fun a h h0 => absurd h0 (by omega)), HBU⟩
            case round =>
              obtain ⟨j, rfl, hj, HJ, HBQ⟩ := hrel
              have p1 := cell_below HBQ.out o1
              have hcw := cell_below HBQ.out hc
              by_cases hlj : j < k
              · have hjl : j < l.length := by rw [HM.out]; omega
                obtain ⟨g', off', hge', -, hd⟩ := HG.out.at_ (show j < m by omega)
                cases hge'
                rw [txs_get l j hjl] at hd
                have hdw := cell_below HBQ.out hd
                obtain ⟨z, hz⟩ : ∃ z, l[j] = z := ⟨_, rfl⟩
                rw [hz] at hdw
                have HST : Hid (¬ z = y → ∀ a (h : a < l.length), a < j + 1 → ¬ l[a] = y) := Lib.hid (fun h a ha ha2 => by
                  by_cases e : a = j
                  · subst e; rw [hz]; exact h
                  · exact HJ.out a ha (by omega))
                have HHI : Hid (z = y → false = r) := Lib.hid (fun h => by
                  rw [← HQ2.out, contains_true hjl hlj (hz.trans h)]; rfl)
                have jj0 : (0 : Int) ≤ (j : Int) := by omega
                have jj1 : (j : Int) < (m : Int) := by omega
                have jj2 : (j : Int) < (k : Int) := by omega
                clear hz hd hjl
                by_cases hzy : z = y
                · have := HHI.out hzy
                  subst this
                  subst hzy
                  go_wp2_with fail
                  go_quiet (fail)
                  go_wp2_with fail
                  go_ret
                  exact ⟨rfl, bTrans HB.out (bTrans HBQ.out (below_dN _ _))⟩
                · have HJ2 := Lib.hid (HST.out hzy)
                  have hzb : (z == y) = false := by simp [hzy]
                  go_wp2_with fail
                  go_quiet (fail)
                  go_wp2_with fail
                  go_roundw
                  case rel => exact ⟨j + 1, by go_num, by omega, HJ2, Lib.hid (bTrans HBQ.out (below_dN _ _))⟩
                  case measure => simp [intOf]; omega
              · obtain rfl : j = k := by omega
                have HQ3 : Hid (needsB name l (j + 1) = r) := Lib.hid (by have := HQ2.out; rwa [contains_false (by rw [HM.out]; omega) HJ.out, Bool.not_false, Bool.true_and] at this)
                go_wp2_with fail
                go_roundw
                case rel => exact ⟨j + 1, by go_num, by omega, HQ3, HBQ⟩
                case measure => simp [intOf]; omega
      · have hk2 : k = m := by omega
        subst hk2
        have hn1 : true = r := by
          rw [← HQ.out, needsB_end name l k (by rw [HM.out]; omega)]
        subst hn1
        go_wp2_with fail
        go_ret
        exact ⟨rfl, bTrans HB.out HBW.out⟩
end Go.Proofs.Yteaididdamihlaa.Ce

namespace Go.Proofs.Yteaididdamihlaa.Ce
set_option linter.unusedVariables false
set_option linter.unusedSimpArgs false
open Go.Joins Go.ChangeShapes Go.WideShapes Go.ChangeAt Go.RowKit Go.Deep

/-- what stood ahead of the k-th, and where the next page begins -/
def Ahead (l : List Seg) (k : Nat) (fz : Int) : Prop := (k = 0 ∧ fz = 0) ∨ ∃ (k1 : Nat) (h : k1 < l.length), k = k1 + 1 ∧ fz = upP (l[k1].place + l[k1].size) ∧ 0 ≤ l[k1].place ∧ 1 ≤ l[k1].size ∧ l[k1].place + l[k1].size ≤ 16384
set_option maxHeartbeats 8000000 in
set_option maxRecDepth 100000 in
theorem rsegs_any (ga : Option Addr) (m gc : Nat) (l : List Seg) (w : World) (hm : l.length = m) (hg : RdG w ga l) (hl : m < 9223372036854775808) (hb : ∀ s ∈ l, u64B s.place ∧ u64B s.size ∧ s.bytes.length < 9223372036854775808) :
    Calls Try.prog 35 #[.slice ga m gc] w fun e w' => e = .returned (.bool (segsB 0 l)) ∧ Below w.heap.size w w' := by
  obtain ⟨r, hr⟩ : ∃ r, segsB 0 l = r := ⟨_, rfl⟩
  rw [hr]
  have HR := Lib.hid hr
  have HM := Lib.hid hm
  have HG := Lib.hid hg
  have HBD := Lib.hid hb
  clear hr hm hg hb
  go_enter Try.func35, Try.ntmps35
  go_wp2_with fail
  go_loopw [3] (fun i wr => ∃ (k : Nat) (fz : Int), i = .int .i64 k ∧ k ≤ m ∧ Hid (Ahead l k fz) ∧ Hid (segsB fz (l.drop k) = r) ∧ Hid (Below w.heap.size w wr)) (fun i _ => m - (intOf i).toNat)
  case atStart => exact ⟨0, 0, rfl, by omega, Lib.hid (Or.inl ⟨rfl, rfl⟩), Lib.hid HR.out, Lib.hid (Below.refl _ _)⟩
  case round =>
    obtain ⟨k, fz, rfl, hk, HAH, HQ, HB⟩ := hrel
    by_cases hlt : k < m
    · have hkl : k < l.length := by rw [HM.out]; exact hlt
      obtain ⟨g, off, hge, -, hc⟩ := (HG.out.below HB.out).at_ hkl
      subst hge
      have hbd := HBD.out _ (List.getElem_mem hkl)
      have hq := HQ.out
      rw [List.drop_eq_getElem_cons hkl] at hq
      have HAH2 : Hid (0 ≤ l[k].place → 1 ≤ l[k].size → l[k].place + l[k].size ≤ 16384 → Ahead l (k + 1) (upP (l[k].place + l[k].size))) := Lib.hid (fun h1 h2 h3 => Or.inr ⟨k, hkl, rfl, rfl, h1, h2, h3⟩)
      obtain ⟨s, hs⟩ : ∃ s, l[k] = s := ⟨_, rfl⟩
      rw [hs] at hc hbd hq HAH2
      have hq : (segB fz s && segsB (upP (s.place + s.size)) (l.drop (k + 1))) = r := hq
      obtain ⟨c0, c1, c2, c3⟩ := hc
      obtain ⟨⟨p0, p1⟩, ⟨z0, z1⟩, b1⟩ := hbd
      obtain ⟨e0, he0⟩ : ∃ e, s.place = e := ⟨_, rfl⟩
      obtain ⟨e1, he1⟩ : ∃ e, s.size = e := ⟨_, rfl⟩
      obtain ⟨e2, he2⟩ : ∃ e, s.flags = e := ⟨_, rfl⟩
      obtain ⟨e3, he3⟩ : ∃ e, s.ba = e := ⟨_, rfl⟩
      obtain ⟨e4, he4⟩ : ∃ e, s.bytes.length = e := ⟨_, rfl⟩
      obtain ⟨e5, he5⟩ : ∃ e, s.bc = e := ⟨_, rfl⟩
      rw [he0] at c0 p0 p1 hq HAH2
      rw [he1] at c1 z0 z1 hq HAH2
      rw [he2] at c2
      rw [he3, he4, he5] at c3
      rw [he4] at b1
      have hsb : segB fz s = (decide (e0 % 256 = 0) && (decide (fz ≤ e0) && (decide (e0 ≤ 16384) && (decide (1 ≤ e1) && (decide (e1 ≤ 2048) && (decide (e0 + e1 ≤ 16384) && (decide ((e4 : Int) ≤ e1) && (decide (1 ≤ e2) && decide (e2 ≤ 5)))))))) ) := by unfold segB; rw [he0, he1, he2, he4]
      rw [hsb] at hq
      have HQ2 := Lib.hid hq
      have kk0 : (0 : Int) ≤ (k : Int) := by omega
      have kk1 : (k : Int) < (m : Int) := by omega
      obtain ⟨W4, hW4⟩ : ∃ W4, wr.alloc (.cells #[.int .u64 e0, .int .u64 e1, .int .i64 e2, .slice e3 e4 e5] 40) = W4 := ⟨_, rfl⟩
      have hbx : BoxN W4 wr.heap.size #[.int .u64 e0, .int .u64 e1, .int .i64 e2, .slice e3 e4 e5] := by rw [← hW4]; exact BoxN.new wr _ _
      have hb4 : Below w.heap.size w W4 := by rw [← hW4]; exact bAlloc HB.out _
      have HB4 := Lib.hid hb4
      have q0 := hbx.cell 0
      have q1 := hbx.cell 1
      have q2 := hbx.cell 2
      have q3 := hbx.cell 3
      simp only [List.getElem?_toArray, List.getElem?_cons_zero, List.getElem?_cons_succ] at q0 q1 q2 q3
      have HBX := Lib.hid hbx
      clear hbx hb4 hq hsb hs he0 he1 he2 he3 he4 he5 HQ
      by_cases hC : e0 % 256 = 0 ∧ 1 ≤ e1 ∧ e1 ≤ 2048 ∧ e0 ≤ 16384 ∧ e0 + e1 ≤ 16384 ∧ (e4 : Int) ≤ e1 ∧ 1 ≤ e2 ∧ e2 ≤ 5
      · obtain ⟨h1, h2, h3, h4, h5, h6, h7, h8⟩ := hC
        have hq2 : ((decide (fz ≤ e0) && segsB (upP (e0 + e1)) (l.drop (k + 1))) = r) := by
          have := HQ2.out
          rw [decide_eq_true h1, decide_eq_true h2, decide_eq_true h3, decide_eq_true h4, decide_eq_true h5, decide_eq_true h6, decide_eq_true h7, decide_eq_true h8] at this
          simpa using this
        have HQ3 := Lib.hid hq2
        have HAH3 := Lib.hid (HAH2.out p0 h2 h5)
        have n2 : ¬ e1 = 0 := by omega
        have n3 : ¬ 2048 < e1 := by omega
        have n4 : ¬ 16384 < e0 := by omega
        have w5 : IntKind.u64.wrap (e0 + e1) = e0 + e1 := by rw [IntKind.wrap_u64]; omega
        have n5 : ¬ 16384 < e0 + e1 := by omega
        have w6 : IntKind.i64.wrap e1 = e1 := IntWalk.i64_in _ (by omega)
        have n6 : ¬ e1 < (e4 : Int) := by omega
        have n7 : ¬ e2 < 1 := by omega
        have n8 : ¬ 5 < e2 := by omega
        have n9 : ¬ e2 = 0 := by omega
        rcases HAH.out with ⟨hk0, rfl⟩ | ⟨k1, hk1l, hk1, hfz, a0, a1, a2⟩
        · have HQ4 : Hid (segsB (upP (e0 + e1)) (l.drop (k + 1)) = r) := Lib.hid (by have := HQ3.out; rwa [decide_eq_true p0, Bool.true_and] at this)
          have n0 : ¬ (0 : Int) < (k : Int) := by omega
          clear hkl hk0
          go_wp2_with fail
          go_roundw
          case rel => exact ⟨k + 1, _, by go_num, by omega, HAH3, HQ4, HB4⟩
          case measure => simp [intOf]; omega
        · have n0 : (0 : Int) < (k : Int) := by omega
          have nk : IntKind.i64.wrap ((k : Int) - 1) = (k1 : Int) := by rw [IntKind.wrap_i64]; omega
          have nk0 : (0 : Int) ≤ (k1 : Int) := by omega
          have nk1 : (k1 : Int) < (m : Int) := by omega
          obtain ⟨g', off', hge', -, d0, d1, d2, d3⟩ := (HG.out.below HB4.out).at_ hk1l
          cases hge'
          obtain ⟨y0, hy0⟩ : ∃ e, l[k1].place = e := ⟨_, rfl⟩
          obtain ⟨y1, hy1⟩ : ∃ e, l[k1].size = e := ⟨_, rfl⟩
          rw [hy0] at d0 hfz a0 a2
          rw [hy1] at d1 hfz a1 a2
          have wy : IntKind.u64.wrap (y0 + y1) = y0 + y1 := by rw [IntKind.wrap_u64]; omega
          have HFZ := Lib.hid hfz
          have hfl : 0 ≤ fz ∧ fz < 100000 := by rw [hfz]; unfold upP; omega
          obtain ⟨f0, f1⟩ := hfl
          clear hkl hy0 hy1 d2 d3 hk1l hfz hk1
          go_wp2_with fail
          clear hW4 c0 c1 c2 c3
          go_quiet (fail)
          have HB5 := Lib.hid (bTrans HB4.out (below_dN W4 nq))
          have HX5 := Lib.hid (boxN_below HBX.out (below_dN W4 nq))
          obtain ⟨U, hU⟩ : ∃ U, W4.drewN nq = U := ⟨_, rfl⟩
          rw [hU] at HB5 HX5 ⊢
          have q0 := HX5.out.cell 0
          simp only [List.getElem?_toArray, List.getElem?_cons_zero] at q0
          clear hU q1 q2 q3 d0 d1
          go_wp2_with fail
          go_loop [5] (fun i => ∃ en : Int, i = .int .u64 en ∧ 0 ≤ en ∧ en ≤ fz ∧ Hid (upP en = fz)) (fun i => (fz - intOf i).toNat)
          case atStart => exact ⟨y0 + y1, rfl, by omega, by rw [HFZ.out]; unfold upP; omega, Lib.hid HFZ.out.symm⟩
          case round =>
            obtain ⟨en, rfl, en0, en1, HE⟩ := hrel
            by_cases hm0 : en % 256 = 0
            · have hef : en = fz := by have := HE.out; unfold upP at this; omega
              subst hef
              by_cases hle : e0 < en
              · have hrf : false = r := by rw [← HQ3.out, decide_eq_false (by omega)]; rfl
                subst hrf
                go_wp2_with fail
                go_ret
                exact ⟨rfl, HB5.out⟩
              · have HQ4 : Hid (segsB (upP (e0 + e1)) (l.drop (k + 1)) = r) := Lib.hid (by have := HQ3.out; rwa [decide_eq_true (by omega), Bool.true_and] at this)
                go_wp2_with fail
                go_roundw
                case rel => exact ⟨k + 1, _, by go_num, by omega, HAH3, HQ4, HB5⟩
                case measure => simp [intOf]; omega
            · have hen : en + 1 ≤ fz := by have := HE.out; unfold upP at this; omega
              have hup : upP (en + 1) = fz := by rw [← HE.out]; unfold upP; omega
              have we : IntKind.u64.wrap (en + 1) = en + 1 := by rw [IntKind.wrap_u64]; omega
              have HUP := Lib.hid hup
              clear hup
              go_wp2_with fail
              go_round
              case rel => exact ⟨en + 1, rfl, by omega, hen, HUP⟩
              case measure => simp [intOf]; omega
      · have hrf : false = r := by
          rw [← HQ2.out]
          symm
          rw [Bool.and_eq_false_iff]
          left
          rw [Bool.eq_false_iff]
          intro hh
          simp only [Bool.and_eq_true, decide_eq_true_eq] at hh
          exact hC ⟨hh.1, hh.2.2.2.1, hh.2.2.2.2.1, hh.2.2.1, hh.2.2.2.2.2.1, hh.2.2.2.2.2.2.1, hh.2.2.2.2.2.2.2.1, hh.2.2.2.2.2.2.2.2⟩
        subst hrf
        clear hkl
        go_wp2_with fail
        all_goals first
          | (go_ret; exact ⟨rfl, HB4.out⟩)
          | (exfalso
             (try simp only [bne_iff_ne, ne_eq, bne_eq_false_iff_eq, Bool.not_eq_true', Bool.not_eq_false', beq_iff_eq, beq_eq_false_iff_ne] at *)
             omega)
    · have hk2 : k = m := by omega
      subst hk2
      have hn1 : true = r := by
        rw [← HQ.out, List.drop_eq_nil_of_le (by rw [HM.out]; omega)]
        rfl
      subst hn1
      go_wp2_with fail
      go_ret
      exact ⟨rfl, HB.out⟩
end Go.Proofs.Yteaididdamihlaa.Ce

namespace Go.Proofs.Yteaididdamihlaa.Ce
set_option linter.unusedVariables false
set_option linter.unusedSimpArgs false
open Go.Joins Go.ChangeShapes Go.WideShapes Go.ChangeAt Go.RowKit Go.Deep

set_option maxHeartbeats 4000000 in
set_option maxRecDepth 100000 in
theorem rsym_any (v0 v1 v3 v4 v5 v6 : Value) (ga : Option Addr) (m gc : Nat) (l : List Seg) (s : Sym) (w : World) (hm : l.length = m) (hg : RdG w ga l) (hl : m < 9223372036854775808) (hb : ∀ s ∈ l, u64B s.place ∧ u64B s.size)
    (hs : u64B s.place ∧ u64B s.size ∧ s.name.length < 9223372036854775808 ∧ s.ver.length < 9223372036854775808) :
    Calls Try.prog 36 #[.agg #[v0, v1, .slice ga m gc, v3, v4, v5, v6], .agg #[.string ⟨s.name.toArray⟩, .string ⟨s.ver.toArray⟩, .int .u64 s.place, .int .u64 s.size, .int .i64 s.kind, .int .i64 s.bind, .int .i64 s.seen, .bool s.defd]] w fun e w' => e = .returned (.bool (symB l s)) ∧ Below w.heap.size w w' := by
  obtain ⟨r, hr⟩ : ∃ r, symB l s = r := ⟨_, rfl⟩
  rw [hr]
  obtain ⟨nm, ver, p, z, kd, bd, sn, df⟩ := s
  obtain ⟨hp, hz, hnm, hver⟩ := hs
  simp only [] at hp hz hnm hver ⊢
  unfold symB at hr
  simp only [] at hr
  have HNM := Lib.hid (fun W => rname_any nm W hnm)
  have HVE := Lib.hid (fun W => rname_any ver W hver)
  have HAT := Lib.hid (fun W (h : RdG W ga l) => rat_any v0 v1 v3 v4 v5 v6 ga m gc l p z W hm h hl hb hp hz)
  obtain ⟨i, hi⟩ : ∃ i, atF l p z = i := ⟨_, rfl⟩
  have hil0 := firstI_lt (fun s => hasB s p z) l
  have hil : -1 ≤ i ∧ i < l.length := by rw [← hi]; exact hil0
  rw [hi] at HAT hr
  obtain ⟨q1, hq1⟩ : ∃ q, nameB nm = q := ⟨_, rfl⟩
  obtain ⟨q2, hq2⟩ : ∃ q, nameB ver = q := ⟨_, rfl⟩
  rw [hq1] at HNM hr
  rw [hq2] at HVE hr
  rw [hm] at hil
  obtain ⟨qv, hqv⟩ : ∃ qv, (ver == [] || q2) = qv := ⟨_, rfl⟩
  obtain ⟨cj, hcj⟩ : ∃ cj, (decide (1 ≤ kd) && (decide (kd ≤ 2) && (decide (1 ≤ bd) && (decide (bd ≤ 3) && (decide (1 ≤ sn) && decide (sn ≤ 2)))))) = cj := ⟨_, rfl⟩
  obtain ⟨rr, hrr⟩ : ∃ rr, (if df then decide (0 ≤ i) && (if kd = 1 then decide (4 ≤ flagsAt l i) && (decide (p % 4 = 0) && decide (0 < z)) else !decide (4 ≤ flagsAt l i)) else decide (p = 0) && (decide (z = 0) && (decide (bd ≠ 1) && decide (sn ≠ 2)))) = rr := ⟨_, rfl⟩
  rw [hqv, hcj, hrr] at hr
  obtain ⟨W, hW⟩ : ∃ W, (w.alloc (.cells #[v0, v1, .slice ga m gc, v3, v4, v5, v6] 28)).alloc (.cells #[.string ⟨nm.toArray⟩, .string ⟨ver.toArray⟩, .int .u64 p, .int .u64 z, .int .i64 kd, .int .i64 bd, .int .i64 sn, .bool df] 84) = W := ⟨_, rfl⟩
  have hbw : Below w.heap.size w W := by rw [← hW]; exact bAlloc (bAlloc (Below.refl _ _) _) _
  have hx1 : BoxN W w.heap.size #[v0, v1, .slice ga m gc, v3, v4, v5, v6] := by rw [← hW]; exact boxN_alloc (BoxN.new w _ _) _
  have hx2 : BoxN W (w.heap.size + 1) #[.string ⟨nm.toArray⟩, .string ⟨ver.toArray⟩, .int .u64 p, .int .u64 z, .int .i64 kd, .int .i64 bd, .int .i64 sn, .bool df] := by
    rw [← hW]
    have := BoxN.new (w.alloc (.cells #[v0, v1, .slice ga m gc, v3, v4, v5, v6] 28)) #[.string ⟨nm.toArray⟩, .string ⟨ver.toArray⟩, .int .u64 p, .int .u64 z, .int .i64 kd, .int .i64 bd, .int .i64 sn, .bool df] 84
    rwa [size_alloc] at this
  have HG := Lib.hid hg
  have HM := Lib.hid hm
  have HR := Lib.hid hr
  have HQV := Lib.hid hqv
  have HCJ := Lib.hid hcj
  have HRR := Lib.hid hrr
  have HB := Lib.hid hbw
  have HX1 := Lib.hid hx1
  have HX2 := Lib.hid hx2
  clear hr hm hg hi hq1 hq2 hb hqv hcj hrr hil0 hbw hx1 hx2
  obtain ⟨p0, p1⟩ := hp
  obtain ⟨z0, z1⟩ := hz
  obtain ⟨i0, i1⟩ := hil
  go_enter Try.func36, Try.ntmps36
  go_upto_region 1 with fail
  clear hW
  have o2 : W.cell? ⟨w.heap.size, 2, none⟩ = some (.slice ga m gc) := HX1.out.cell 2
  have s0 : W.cell? ⟨w.heap.size + 1, 0, none⟩ = some (.string ⟨nm.toArray⟩) := HX2.out.cell 0
  have s1 : W.cell? ⟨w.heap.size + 1, 1, none⟩ = some (.string ⟨ver.toArray⟩) := HX2.out.cell 1
  go_wp2_with fail
  refine (HNM.out _).mono ?_; rintro e w' ⟨rfl, rfl⟩
  go_upto_region 2 with fail
  go_cut [0, 1, 6] from 9 (fun _ _ s6 wc => s6 = .bool qv ∧ wc = W)
  case first =>
    by_cases hv : ver = []
    · subst hv
      have hqf : true = qv := HQV.out
      subst hqf
      go_wp2_with fail
      go_meet
      case rel => exact ⟨rfl, rfl⟩
    · have hve : (ver == []) = false := by simp [hv]
      go_wp2_with fail
      refine (HVE.out _).mono ?_; rintro e w' ⟨rfl, rfl⟩
      have hqf : q2 = qv := by rw [← HQV.out, hve]; simp
      subst hqf
      go_wp2_with fail
      go_meet
      case rel => exact ⟨rfl, rfl⟩
  case rest =>
    obtain ⟨rfl, rfl⟩ := hcut
    cases q1 with
    | false =>
      have hrf : false = r := HR.out
      subst hrf
      go_wp2_with fail
      go_ret
      exact ⟨rfl, HB.out⟩
    | true =>
      cases qv with
      | false =>
        have hrf : false = r := HR.out
        subst hrf
        go_wp2_with fail
        go_ret
        exact ⟨rfl, HB.out⟩
      | true =>
        have HR1 : Hid ((cj && rr) = r) := Lib.hid HR.out
        clear HR
        have s4 : wc.cell? ⟨w.heap.size + 1, 4, none⟩ = some (.int .i64 kd) := HX2.out.cell 4
        have s5 : wc.cell? ⟨w.heap.size + 1, 5, none⟩ = some (.int .i64 bd) := HX2.out.cell 5
        have s6 : wc.cell? ⟨w.heap.size + 1, 6, none⟩ = some (.int .i64 sn) := HX2.out.cell 6
        go_upto_region 5 with fail
        go_cut [58] from 9 (fun s58 wd => s58 = .bool (!cj) ∧ wd = wc)
        case first =>
          go_wp2_with fail
          all_goals
            go_meet
            case rel =>
              refine ⟨?_, rfl⟩
              (try simp only [bne_iff_ne, ne_eq, bne_eq_false_iff_eq, Bool.not_eq_true', Bool.not_eq_false', beq_iff_eq, beq_eq_false_iff_ne] at *)
              congr 1
              rw [← HCJ.out, Bool.eq_iff_iff]
              simp
              try omega
        case rest =>
          obtain ⟨rfl, rfl⟩ := hcut
          cases cj with
          | false =>
            have hrf : false = r := HR1.out
            subst hrf
            go_wp2_with fail
            go_ret
            exact ⟨rfl, HB.out⟩
          | true =>
            have HR2 : Hid (rr = r) := Lib.hid HR1.out
            clear HR1
            have s2 : wc.cell? ⟨w.heap.size + 1, 2, none⟩ = some (.int .u64 p) := HX2.out.cell 2
            have s3 : wc.cell? ⟨w.heap.size + 1, 3, none⟩ = some (.int .u64 z) := HX2.out.cell 3
            have s7 : wc.cell? ⟨w.heap.size + 1, 7, none⟩ = some (.bool df) := HX2.out.cell 7
            have hk := HCJ.out
            simp only [Bool.and_eq_true, decide_eq_true_eq] at hk
            cases df with
            | false =>
              go_wp2_with fail
              all_goals (go_ret; exact ⟨ret_bool (by rw [← HR2.out, ← HRR.out, Bool.eq_iff_iff]; simp; try omega), HB.out⟩)
            | true =>
              have o0 : wc.cell? ⟨w.heap.size, 0, none⟩ = some v0 := HX1.out.cell 0
              have o1 : wc.cell? ⟨w.heap.size, 1, none⟩ = some v1 := HX1.out.cell 1
              have o3 : wc.cell? ⟨w.heap.size, 3, none⟩ = some v3 := HX1.out.cell 3
              have o4 : wc.cell? ⟨w.heap.size, 4, none⟩ = some v4 := HX1.out.cell 4
              have o5 : wc.cell? ⟨w.heap.size, 5, none⟩ = some v5 := HX1.out.cell 5
              have o6 : wc.cell? ⟨w.heap.size, 6, none⟩ = some v6 := HX1.out.cell 6
              clear hk
              go_wp2_with fail
              refine (HAT.out _ (HG.out.below HB.out)).mono ?_; rintro e W1 ⟨rfl, hb1⟩
              have HB1 := Lib.hid (bTrans HB.out hb1)
              have o2 := cell_below hb1 o2
              have s2 := cell_below hb1 s2
              have s3 := cell_below hb1 s3
              have s4 := cell_below hb1 s4
              clear hb1 o0 o1 o3 o4 o5 o6 s0 s1 s5 s6 s7
              by_cases h0 : 0 ≤ i
              · obtain ⟨k, rfl⟩ := Int.eq_ofNat_of_zero_le h0
                have hkl : k < l.length := by rw [HM.out]; omega
                obtain ⟨g, off, hge, -, -, -, c2, -⟩ := (HG.out.below HB1.out).at_ hkl
                subst hge
                have hfl : flagsAt l (k : Int) = l[k].flags := by unfold flagsAt; rw [Int.toNat_natCast, List.getElem?_eq_getElem hkl]
                obtain ⟨f, he⟩ : ∃ f, l[k].flags = f := ⟨_, rfl⟩
                rw [he] at c2 hfl
                have HFL := Lib.hid hfl
                clear hfl he hkl
                by_cases hk1 : kd = 1
                · subst hk1
                  go_wp2_with fail
                  all_goals (go_ret; exact ⟨ret_bool (by rw [← HR2.out, ← HRR.out, HFL.out, Bool.eq_iff_iff]; simp [*]; try (first | omega | (intros; omega))), HB1.out⟩)
                · have hk1n : (kd == 1) = false := by simp [hk1]
                  go_wp2_with fail
                  all_goals (go_ret; exact ⟨ret_bool (by rw [← HR2.out, ← HRR.out, HFL.out, Bool.eq_iff_iff]; simp [*]; try (first | omega | (intros; omega))), HB1.out⟩)
              · go_wp2_with fail
                all_goals (go_ret; exact ⟨ret_bool (by rw [← HR2.out, ← HRR.out, Bool.eq_iff_iff]; simp; intros; omega), HB1.out⟩)
end Go.Proofs.Yteaididdamihlaa.Ce

namespace Go.Proofs.Yteaididdamihlaa.Ce
set_option linter.unusedVariables false
set_option linter.unusedSimpArgs false
open Go.Joins Go.ChangeShapes Go.WideShapes Go.ChangeAt Go.RowKit Go.Deep

theorem firstI_hit {α : Type} {p : α → Bool} {l : List α} {k : Nat} (h : firstI p l = (k : Int)) : ∃ hk : k < l.length, p l[k] = true := by
  unfold firstI at h
  cases e : l.findIdx? p with
  | none => rw [e] at h; exact absurd h (by show ¬ (-1 : Int) = _; omega)
  | some i =>
    rw [e] at h
    have h : (i : Int) = (k : Int) := h
    obtain ⟨h1, h2, -⟩ := List.findIdx?_eq_some_iff_getElem.1 e
    obtain rfl : i = k := by omega
    exact ⟨h1, h2⟩
/-- what may be written there: the first segment that has it -/
theorem write_of_at {l : List Seg} {x n : Int} {k : Nat} (h : atF l x n = (k : Int)) (hk : k < l.length) (hf : l[k].flags = 2 ∨ l[k].flags = 3) : writeB l x n = true := by
  obtain ⟨h1, h2⟩ := firstI_hit h
  exact List.any_eq_true.2 ⟨l[k], List.getElem_mem hk, by rw [Bool.and_eq_true]; exact ⟨decide_eq_true hf, h2⟩⟩
def AheadR (sy : List Sym) (rl : List Rel) (k : Nat) (fz : Int) : Prop := (k = 0 ∧ fz = 0) ∨ ∃ (k1 : Nat) (n1 : Nat) (h : k1 < rl.length), k = k1 + 1 ∧ fz = rl[k1].place + roomZ sy rl[k1].sym ∧ rl[k1].sym = (n1 : Int) ∧ n1 < sy.length ∧ 0 ≤ rl[k1].place ∧ rl[k1].place ≤ 16384
theorem roomZ_or (sy : List Sym) (n : Int) : roomZ sy n = 32 ∨ roomZ sy n = 64 := by
  unfold roomZ
  split
  · exact Or.inr rfl
  · exact Or.inl rfl
set_option maxHeartbeats 8000000 in
set_option maxRecDepth 100000 in
theorem rrelocs_any (v0 v1 v5 v6 : Value) (ga sa ra : Option Addr) (m gc ms sc mr rc : Nat) (l : List Seg) (sy : List Sym) (rl : List Rel) (w : World) (hm : l.length = m) (hms : sy.length = ms) (hmr : rl.length = mr) (hg : RdG w ga l) (hs : RdS w sa sy) (hr : RdR w ra rl)
    (hl : m < 9223372036854775808) (hls : ms < 9223372036854775808) (hlr : mr < 9223372036854775808) (hsb : segsB 0 l = true) (hb : ∀ s ∈ l, u64B s.place ∧ u64B s.size) (hbr : ∀ x ∈ rl, u64B x.place) :
    Calls Try.prog 37 #[.agg #[v0, v1, .slice ga m gc, .slice sa ms sc, .slice ra mr rc, v5, v6]] w fun e w' => e = .returned (.bool (relsB l sy 0 rl)) ∧ Below w.heap.size w w' := by
  obtain ⟨r, hrr⟩ : ∃ r, relsB l sy 0 rl = r := ⟨_, rfl⟩
  rw [hrr]
  have HROOM := Lib.hid (fun W (hW : Below w.heap.size w W) (n : Nat) (hn : n < ms) => rroom_any v0 v1 (.slice ga m gc) (.slice ra mr rc) v5 v6 sa ms sc sy n W hms (hs.below hW) hls hn)
  have HAT := Lib.hid (fun W (hW : Below w.heap.size w W) x n (hx : u64B x) (hn : u64B n) => rat_any v0 v1 (.slice sa ms sc) (.slice ra mr rc) v5 v6 ga m gc l x n W hm (hg.below hW) hl hb hx hn)
  have HG := Lib.hid hg
  have HRL := Lib.hid hr
  have HM := Lib.hid hm
  have HMS := Lib.hid hms
  have HMR := Lib.hid hmr
  have HSB := Lib.hid hsb
  have HBR := Lib.hid hbr
  have HRR := Lib.hid hrr
  obtain ⟨W, hW⟩ : ∃ W, w.alloc (.cells #[v0, v1, .slice ga m gc, .slice sa ms sc, .slice ra mr rc, v5, v6] 28) = W := ⟨_, rfl⟩
  obtain ⟨B, hB⟩ : ∃ B, w.heap.size = B := ⟨_, rfl⟩
  have HBX : Hid (BoxN W B #[v0, v1, .slice ga m gc, .slice sa ms sc, .slice ra mr rc, v5, v6]) := Lib.hid (by rw [← hW, ← hB]; exact BoxN.new w _ _)
  have HBW : Hid (Below w.heap.size w W) := Lib.hid (by rw [← hW]; exact bAlloc (Below.refl _ _) _)
  have HW := Lib.hid hW
  have HBE := Lib.hid hB
  clear hm hms hmr hg hs hr hsb hb hbr hrr hW hB
  go_enter Try.func37, Try.ntmps37
  go_upto_region 1 with fail
  rw [HW.out, HBE.out]
  clear HW
  go_wp2_with fail
  go_loopw [3] (fun i wr => ∃ (k : Nat) (fz : Int), i = .int .i64 k ∧ k ≤ mr ∧ Hid (AheadR sy rl k fz) ∧ Hid (relsB l sy fz (rl.drop k) = r) ∧ Hid (Below w.heap.size w wr) ∧ Hid (BoxN wr B #[v0, v1, .slice ga m gc, .slice sa ms sc, .slice ra mr rc, v5, v6])) (fun i _ => mr - (intOf i).toNat)
  case atStart => exact ⟨0, 0, rfl, by omega, Lib.hid (Or.inl ⟨rfl, rfl⟩), Lib.hid HRR.out, HBW, HBX⟩
  case round =>
    clear HBX
    obtain ⟨k, fz, rfl, hk, HAH, HQ, HB, HBX⟩ := hrel
    have o4 : wr.cell? ⟨B, 4, none⟩ = some (.slice ra mr rc) := HBX.out.cell 4
    by_cases hlt : k < mr
    · have hkl : k < rl.length := by rw [HMR.out]; exact hlt
      obtain ⟨g, off, hge, -, c0, c1⟩ := (HRL.out.below HB.out).at_ hkl
      subst hge
      have hbd := HBR.out _ (List.getElem_mem hkl)
      have hq := HQ.out
      rw [List.drop_eq_getElem_cons hkl] at hq
      have HAH2 : Hid (∀ n : Nat, rl[k].sym = (n : Int) → n < sy.length → 0 ≤ rl[k].place → rl[k].place ≤ 16384 → AheadR sy rl (k + 1) (rl[k].place + roomZ sy rl[k].sym)) := Lib.hid (fun n h0 h1 h2 h3 => Or.inr ⟨k, n, hkl, rfl, rfl, h0, h1, h2, h3⟩)
      obtain ⟨x, hx⟩ : ∃ x, rl[k] = x := ⟨_, rfl⟩
      rw [hx] at c0 c1 hbd hq HAH2
      have hq : (relB l sy fz x && relsB l sy (x.place + roomZ sy x.sym) (rl.drop (k + 1))) = r := hq
      obtain ⟨p, n⟩ := x
      simp only [] at c0 c1 hbd hq HAH2
      obtain ⟨p0, p1⟩ := hbd
      have hrb : relB l sy fz ⟨p, n⟩ = (decide (p % 32 = 0) && (decide (0 ≤ n) && (decide (n < ms) && (decide (fz ≤ p) && writeB l p (roomZ sy n))))) := by unfold relB; rw [HMS.out]
      rw [hrb] at hq
      have HQ2 := Lib.hid hq
      have kk0 : (0 : Int) ≤ (k : Int) := by omega
      have kk1 : (k : Int) < (mr : Int) := by omega
      obtain ⟨B4, hB4⟩ : ∃ B4, wr.heap.size = B4 := ⟨_, rfl⟩
      obtain ⟨W4, hW4⟩ : ∃ W4, wr.alloc (.cells #[.int .u64 p, .int .i64 n] 97) = W4 := ⟨_, rfl⟩
      have HB4 : Hid (Below w.heap.size w W4) := Lib.hid (by rw [← hW4]; exact bAlloc HB.out _)
      have HX4 : Hid (BoxN W4 B4 #[.int .u64 p, .int .i64 n]) := Lib.hid (by rw [← hW4, ← hB4]; exact BoxN.new wr _ _)
      have HBX4 : Hid (BoxN W4 B #[v0, v1, .slice ga m gc, .slice sa ms sc, .slice (some ⟨g, off, none⟩) mr rc, v5, v6]) := Lib.hid (by rw [← hW4]; exact boxN_alloc HBX.out _)
      have HW4 := Lib.hid hW4
      have HB4E := Lib.hid hB4
      clear hW4 hB4 hq hrb hx HQ
      go_upto_region 5 with fail
      rw [HW4.out, HB4E.out]
      clear HW4
      have q0 : W4.cell? ⟨B4, 0, none⟩ = some (.int .u64 p) := HX4.out.cell 0
      have q1 : W4.cell? ⟨B4, 1, none⟩ = some (.int .i64 n) := HX4.out.cell 1
      have o3 : W4.cell? ⟨B, 3, none⟩ = some (.slice sa ms sc) := HBX4.out.cell 3
      clear o4 c0 c1 HBX
      by_cases hC : p % 32 = 0 ∧ 0 ≤ n ∧ n < ms
      · obtain ⟨h1, h2, h3⟩ := hC
        have hq2 : ((decide (fz ≤ p) && writeB l p (roomZ sy n)) && relsB l sy (p + roomZ sy n) (rl.drop (k + 1))) = r := by
          have := HQ2.out
          rw [decide_eq_true h1, decide_eq_true h2, decide_eq_true h3] at this
          simpa using this
        have HQ3 := Lib.hid hq2
        clear hq2 HQ2
        obtain ⟨nn, rfl⟩ := Int.eq_ofNat_of_zero_le h2
        have hnn : nn < ms := by omega
        have n1 : ¬ (nn : Int) < 0 := by omega
        have n2 : ¬ (ms : Int) ≤ (nn : Int) := by omega
        have hro := roomZ_or sy (nn : Int)
        obtain ⟨rm, hrm⟩ : ∃ rm, roomZ sy (nn : Int) = rm := ⟨_, rfl⟩
        have HC1 := Lib.hid (fun W hW => HROOM.out W hW nn hnn)
        have hrb : 0 ≤ rm ∧ rm ≤ 64 := by rw [← hrm]; omega
        have hrmp : 0 < rm := by rw [← hrm]; omega
        rw [hrm] at HC1 HQ3 HAH2
        obtain ⟨r0, r1⟩ := hrb
        have hrm0 : 0 < rm := hrmp
        clear hrmp
        clear hro hrm
        have HC2 := Lib.hid (fun W hW => HAT.out W hW p rm ⟨p0, p1⟩ ⟨r0, by omega⟩)
        rcases HAH.out with ⟨hk0, rfl⟩ | ⟨k1, m1, hk1l, hk1, hfz, hs1, hm1, a0, a1⟩
        · have HQ4 : Hid ((writeB l p rm && relsB l sy (p + rm) (rl.drop (k + 1))) = r) := Lib.hid (by have := HQ3.out; rwa [decide_eq_true p0, Bool.true_and] at this)
          have n0 : ¬ (0 : Int) < (k : Int) := by omega
          have n0d : decide ((0 : Int) < (k : Int)) = false := decide_eq_false n0
          have n0n : ¬ 0 < k := by omega
          clear hkl hk0 HQ3
          go_wp2_with fail
          go_quiet (fail)
          have HB5 := Lib.hid (bTrans HB4.out (below_dN W4 nq))
          have HX5 := Lib.hid (boxN_below HX4.out (below_dN W4 nq))
          have HBX5 := Lib.hid (boxN_below HBX4.out (below_dN W4 nq))
          obtain ⟨U, hU⟩ : ∃ U, W4.drewN nq = U := ⟨_, rfl⟩
          rw [hU] at HB5 HX5 HBX5 ⊢
          clear hU q0 q1 o3
          have q0 : U.cell? ⟨B4, 0, none⟩ = some (.int .u64 p) := HX5.out.cell 0
          have q1 : U.cell? ⟨B4, 1, none⟩ = some (.int .i64 (nn : Int)) := HX5.out.cell 1
          have o0 : U.cell? ⟨B, 0, none⟩ = some v0 := HBX5.out.cell 0
          have o1 : U.cell? ⟨B, 1, none⟩ = some v1 := HBX5.out.cell 1
          have o2 : U.cell? ⟨B, 2, none⟩ = some (.slice ga m gc) := HBX5.out.cell 2
          have o3 : U.cell? ⟨B, 3, none⟩ = some (.slice sa ms sc) := HBX5.out.cell 3
          have o4 : U.cell? ⟨B, 4, none⟩ = some (.slice (some ⟨g, off, none⟩) mr rc) := HBX5.out.cell 4
          have o5 : U.cell? ⟨B, 5, none⟩ = some v5 := HBX5.out.cell 5
          have o6 : U.cell? ⟨B, 6, none⟩ = some v6 := HBX5.out.cell 6
          have hBlu : B < U.heap.size := HBX5.out.lt
          have hB4lu : B4 < U.heap.size := HX5.out.lt
          have HS2 := Lib.hid (show U.cell? ⟨B, 0, none⟩ = some v0 ∧ U.cell? ⟨B, 1, none⟩ = some v1 ∧ U.cell? ⟨B, 2, none⟩ = some (.slice ga m gc) ∧ U.cell? ⟨B, 3, none⟩ = some (.slice sa ms sc) ∧ U.cell? ⟨B, 4, none⟩ = some (.slice (some ⟨g, off, none⟩) mr rc) ∧ U.cell? ⟨B, 5, none⟩ = some v5 ∧ U.cell? ⟨B, 6, none⟩ = some v6 ∧ U.cell? ⟨B4, 0, none⟩ = some (.int .u64 p) ∧ U.cell? ⟨B4, 1, none⟩ = some (.int .i64 (nn : Int)) from ⟨o0, o1, o2, o3, o4, o5, o6, q0, q1⟩)
          have HC1 := Lib.hid (HC1.out U.drew (bTrans HB5.out (below_dN U 1)))
          obtain ⟨ai, hai⟩ : ∃ ai, atF l p rm = ai := ⟨_, rfl⟩
          rw [hai] at HC2
          have HAI := Lib.hid hai
          clear hai
          go_upto_region 9 with fail
          go_region_held3 (fun W => W.cell? ⟨B, 0, none⟩ = some v0 ∧ W.cell? ⟨B, 1, none⟩ = some v1 ∧ W.cell? ⟨B, 2, none⟩ = some (.slice ga m gc) ∧ W.cell? ⟨B, 3, none⟩ = some (.slice sa ms sc) ∧ W.cell? ⟨B, 4, none⟩ = some (.slice (some ⟨g, off, none⟩) mr rc) ∧ W.cell? ⟨B, 5, none⟩ = some v5 ∧ W.cell? ⟨B, 6, none⟩ = some v6 ∧ W.cell? ⟨B4, 0, none⟩ = some (.int .u64 p) ∧ W.cell? ⟨B4, 1, none⟩ = some (.int .i64 (nn : Int)))
            (first | exact HS4.out | exact HS3.out | exact HS2.out | go_keep)
            (first
              | (go_at_call 52; refine HC1.out.mono ?_; rintro e w6 ⟨rfl, hb6⟩; have HB6 := Lib.hid (bTrans (below_dN U 1) hb6); have HS3 := Lib.hid (show w6.cell? ⟨B, 0, none⟩ = some v0 ∧ w6.cell? ⟨B, 1, none⟩ = some v1 ∧ w6.cell? ⟨B, 2, none⟩ = some (.slice ga m gc) ∧ w6.cell? ⟨B, 3, none⟩ = some (.slice sa ms sc) ∧ w6.cell? ⟨B, 4, none⟩ = some (.slice (some ⟨g, off, none⟩) mr rc) ∧ w6.cell? ⟨B, 5, none⟩ = some v5 ∧ w6.cell? ⟨B, 6, none⟩ = some v6 ∧ w6.cell? ⟨B4, 0, none⟩ = some (.int .u64 p) ∧ w6.cell? ⟨B4, 1, none⟩ = some (.int .i64 (nn : Int)) from ⟨cell_below HB6.out HS2.out.1, cell_below HB6.out HS2.out.2.1, cell_below HB6.out HS2.out.2.2.1, cell_below HB6.out HS2.out.2.2.2.1, cell_below HB6.out HS2.out.2.2.2.2.1, cell_below HB6.out HS2.out.2.2.2.2.2.1, cell_below HB6.out HS2.out.2.2.2.2.2.2.1, cell_below HB6.out HS2.out.2.2.2.2.2.2.2.1, cell_below HB6.out HS2.out.2.2.2.2.2.2.2.2⟩); clear hb6)
              | (go_at_call 51; refine (HC2.out w6 (bTrans HB5.out HB6.out)).mono ?_; rintro e w7 ⟨rfl, hb7⟩; have HB7 := Lib.hid (bTrans HB6.out hb7); have HS4 := Lib.hid (show w7.cell? ⟨B, 0, none⟩ = some v0 ∧ w7.cell? ⟨B, 1, none⟩ = some v1 ∧ w7.cell? ⟨B, 2, none⟩ = some (.slice ga m gc) ∧ w7.cell? ⟨B, 3, none⟩ = some (.slice sa ms sc) ∧ w7.cell? ⟨B, 4, none⟩ = some (.slice (some ⟨g, off, none⟩) mr rc) ∧ w7.cell? ⟨B, 5, none⟩ = some v5 ∧ w7.cell? ⟨B, 6, none⟩ = some v6 ∧ w7.cell? ⟨B4, 0, none⟩ = some (.int .u64 p) ∧ w7.cell? ⟨B4, 1, none⟩ = some (.int .i64 (nn : Int)) from ⟨cell_below HB7.out HS2.out.1, cell_below HB7.out HS2.out.2.1, cell_below HB7.out HS2.out.2.2.1, cell_below HB7.out HS2.out.2.2.2.1, cell_below HB7.out HS2.out.2.2.2.2.1, cell_below HB7.out HS2.out.2.2.2.2.2.1, cell_below HB7.out HS2.out.2.2.2.2.2.2.1, cell_below HB7.out HS2.out.2.2.2.2.2.2.2.1, cell_below HB7.out HS2.out.2.2.2.2.2.2.2.2⟩); clear hb7))
          clear o0 o1 o2 o3 o4 o5 o6 q0 q1
          have HB8 := Lib.hid (bTrans HB5.out HB7.out)
          have HBX8 := Lib.hid (boxN_below HBX5.out HB7.out)
          by_cases h0 : 0 ≤ ai
          · obtain ⟨ki, rfl⟩ := Int.eq_ofNat_of_zero_le h0
            obtain ⟨hkil, -⟩ := firstI_hit HAI.out
            obtain ⟨gg, offg, hge, -, -, -, f2, -⟩ := (HG.out.below HB8.out).at_ hkil
            subst hge
            have o2 : w7.cell? ⟨B, 2, none⟩ = some (.slice (some ⟨gg, offg, none⟩) m gc) := HBX8.out.cell 2
            have kb0 : (0 : Int) ≤ (ki : Int) := by omega
            have kb1 : (ki : Int) < (m : Int) := by rw [← HM.out]; omega
            have kb2 : ¬ (ki : Int) < 0 := by omega
            have HFL : Hid (l[ki].flags = 2 ∨ l[ki].flags = 3 → writeB l p rm = true) := Lib.hid (fun h => write_of_at HAI.out hkil h)
            have HFN : Hid (writeB l p rm = true → 0 < rm → l[ki].flags = 2 ∨ l[ki].flags = 3) := Lib.hid (fun h h1 => by
              obtain ⟨j, hj, h2, h3⟩ := at_write HSB.out h1 h
              rw [HAI.out] at h2
              obtain rfl : ki = j := by omega
              exact h3)
            obtain ⟨f, hf⟩ : ∃ f, l[ki].flags = f := ⟨_, rfl⟩
            rw [hf] at f2 HFL HFN
            clear hf hkil
            by_cases hf2 : f = 2 ∨ f = 3
            · have hw := HFL.out hf2
              have hend := writeB_end HSB.out hw
              have HQ5 : Hid (relsB l sy (p + rm) (rl.drop (k + 1)) = r) := Lib.hid (by have := HQ4.out; rwa [hw, Bool.true_and] at this)
              have HAH3 := Lib.hid (HAH2.out nn rfl (by rw [HMS.out]; exact hnn) p0 (by omega))
              clear hw hend
              rcases hf2 with rfl | rfl
              · go_wp2_with fail
                go_roundw
                case rel => exact ⟨k + 1, _, by go_num, by omega, HAH3, HQ5, HB8, HBX8⟩
                case measure => simp [intOf]; omega
              · go_wp2_with fail
                go_roundw
                case rel => exact ⟨k + 1, _, by go_num, by omega, HAH3, HQ5, HB8, HBX8⟩
                case measure => simp [intOf]; omega
            · have hrf : false = r := by
                rw [← HQ4.out]
                symm
                rw [Bool.and_eq_false_iff]
                left
                rw [Bool.eq_false_iff]
                exact fun h => hf2 (HFN.out h hrm0)
              subst hrf
              have hf3 : ¬ f = 2 := fun h => hf2 (Or.inl h)
              have hf4 : ¬ f = 3 := fun h => hf2 (Or.inr h)
              clear hf2
              go_wp2_with fail
              all_goals first
                | (go_ret; exact ⟨rfl, HB8.out⟩)
                | (exfalso
                   (try simp only [bne_iff_ne, ne_eq, bne_eq_false_iff_eq, Bool.not_eq_true', Bool.not_eq_false', beq_iff_eq, beq_eq_false_iff_ne] at *)
                   omega)
          · have hrf : false = r := by
              rw [← HQ4.out]
              symm
              rw [Bool.and_eq_false_iff]
              left
              rw [Bool.eq_false_iff]
              intro h
              obtain ⟨j, hj, h2, h3⟩ := at_write HSB.out hrm0 h
              rw [HAI.out] at h2
              omega
            subst hrf
            have kb2 : ai < 0 := by omega
            go_wp2_with fail
            go_ret
            exact ⟨rfl, HB8.out⟩
        · have n0 : (0 : Int) < (k : Int) := by omega
          have n0n : 0 < k := by omega
          have n0d : decide ((0 : Int) < (k : Int)) = true := decide_eq_true n0
          have nk : IntKind.i64.wrap ((k : Int) - 1) = (k1 : Int) := by rw [IntKind.wrap_i64]; omega
          have nk0 : (0 : Int) ≤ (k1 : Int) := by omega
          have nk1 : (k1 : Int) < (mr : Int) := by omega
          obtain ⟨g', off', hge', -, d0, d1⟩ := (HRL.out.below HB4.out).at_ hk1l
          cases hge'
          rw [hs1] at d1
          have hro := roomZ_or sy (m1 : Int)
          have HC3 := Lib.hid (fun W hW => HROOM.out W hW m1 (by rw [← HMS.out]; exact hm1))
          rw [hs1] at hfz
          obtain ⟨rm1, hrm1⟩ : ∃ rm, roomZ sy (m1 : Int) = rm := ⟨_, rfl⟩
          rw [hrm1] at HC3 hro hfz
          obtain ⟨y0, hy0⟩ : ∃ e, rl[k1].place = e := ⟨_, rfl⟩
          rw [hy0] at d0 hfz a0 a1
          have HFZ := Lib.hid hfz
          have wy : IntKind.u64.wrap (y0 + rm1) = y0 + rm1 := by rw [IntKind.wrap_u64]; omega
          have hrd : 0 ≤ rm1 ∧ rm1 ≤ 64 := by omega
          clear hro
          have hBl : B < W4.heap.size := HBX4.out.lt
          have hB4l : B4 < W4.heap.size := HX4.out.lt
          have hgl := heap_lt_of_cell d0
          have o0 : W4.cell? ⟨B, 0, none⟩ = some v0 := HBX4.out.cell 0
          have o1 : W4.cell? ⟨B, 1, none⟩ = some v1 := HBX4.out.cell 1
          have o2 : W4.cell? ⟨B, 2, none⟩ = some (.slice ga m gc) := HBX4.out.cell 2
          have o4 : W4.cell? ⟨B, 4, none⟩ = some (.slice (some ⟨g, off, none⟩) mr rc) := HBX4.out.cell 4
          have o5 : W4.cell? ⟨B, 5, none⟩ = some v5 := HBX4.out.cell 5
          have o6 : W4.cell? ⟨B, 6, none⟩ = some v6 := HBX4.out.cell 6
          have HS0 := Lib.hid (show W4.cell? ⟨B, 0, none⟩ = some v0 ∧ W4.cell? ⟨B, 1, none⟩ = some v1 ∧ W4.cell? ⟨B, 2, none⟩ = some (.slice ga m gc) ∧ W4.cell? ⟨B, 3, none⟩ = some (.slice sa ms sc) ∧ W4.cell? ⟨B, 4, none⟩ = some (.slice (some ⟨g, off, none⟩) mr rc) ∧ W4.cell? ⟨B, 5, none⟩ = some v5 ∧ W4.cell? ⟨B, 6, none⟩ = some v6 ∧ W4.cell? ⟨B4, 0, none⟩ = some (.int .u64 p) ∧ W4.cell? ⟨g, off + k1 * 2, none⟩ = some (.int .u64 y0) ∧ W4.cell? ⟨g, off + k1 * 2 + 1, none⟩ = some (.int .i64 (m1 : Int)) from ⟨o0, o1, o2, o3, o4, o5, o6, q0, d0, d1⟩)
          have HC3 := Lib.hid (HC3.out W4.drew (bTrans HB4.out (below_dN W4 1)))
          clear hkl hs1 hrm1 hy0 hk1l hfz hk1
          go_upto_region 7 with fail
          go_region_held3 (fun W => W.cell? ⟨B, 0, none⟩ = some v0 ∧ W.cell? ⟨B, 1, none⟩ = some v1 ∧ W.cell? ⟨B, 2, none⟩ = some (.slice ga m gc) ∧ W.cell? ⟨B, 3, none⟩ = some (.slice sa ms sc) ∧ W.cell? ⟨B, 4, none⟩ = some (.slice (some ⟨g, off, none⟩) mr rc) ∧ W.cell? ⟨B, 5, none⟩ = some v5 ∧ W.cell? ⟨B, 6, none⟩ = some v6 ∧ W.cell? ⟨B4, 0, none⟩ = some (.int .u64 p) ∧ W.cell? ⟨g, off + k1 * 2, none⟩ = some (.int .u64 y0) ∧ W.cell? ⟨g, off + k1 * 2 + 1, none⟩ = some (.int .i64 (m1 : Int)))
            (first | exact HS1.out | exact HS0.out | go_keep)
            (first | (go_at_call 52; refine HC3.out.mono ?_; rintro e w5 ⟨rfl, hb'⟩; have HBS := Lib.hid (bTrans (below_dN W4 1) hb'); have HS1 := Lib.hid (show w5.cell? ⟨B, 0, none⟩ = some v0 ∧ w5.cell? ⟨B, 1, none⟩ = some v1 ∧ w5.cell? ⟨B, 2, none⟩ = some (.slice ga m gc) ∧ w5.cell? ⟨B, 3, none⟩ = some (.slice sa ms sc) ∧ w5.cell? ⟨B, 4, none⟩ = some (.slice (some ⟨g, off, none⟩) mr rc) ∧ w5.cell? ⟨B, 5, none⟩ = some v5 ∧ w5.cell? ⟨B, 6, none⟩ = some v6 ∧ w5.cell? ⟨B4, 0, none⟩ = some (.int .u64 p) ∧ w5.cell? ⟨g, off + k1 * 2, none⟩ = some (.int .u64 y0) ∧ w5.cell? ⟨g, off + k1 * 2 + 1, none⟩ = some (.int .i64 (m1 : Int)) from ⟨cell_below HBS.out HS0.out.1, cell_below HBS.out HS0.out.2.1, cell_below HBS.out HS0.out.2.2.1, cell_below HBS.out HS0.out.2.2.2.1, cell_below HBS.out HS0.out.2.2.2.2.1, cell_below HBS.out HS0.out.2.2.2.2.2.1, cell_below HBS.out HS0.out.2.2.2.2.2.2.1, cell_below HBS.out HS0.out.2.2.2.2.2.2.2.1, cell_below HBS.out HS0.out.2.2.2.2.2.2.2.2.1, cell_below HBS.out HS0.out.2.2.2.2.2.2.2.2.2⟩); clear hb'))
          clear o0 o1 o2 o3 o4 o5 o6 q0 q1 d0 d1
          have HB5 := Lib.hid (bTrans HB4.out HBS.out)
          have HX5 := Lib.hid (boxN_below HX4.out HBS.out)
          have HBX5 := Lib.hid (boxN_below HBX4.out HBS.out)
          obtain ⟨U, hU⟩ : ∃ U, U = w5 := ⟨_, rfl⟩
          subst hU
          by_cases hfp : p < y0 + rm1
          · have hrf : false = r := by rw [← HQ3.out, decide_eq_false (by rw [HFZ.out]; omega)]; rfl
            subst hrf
            go_wp2_with fail
            go_ret
            exact ⟨rfl, HB5.out⟩
          · have HQ4 : Hid ((writeB l p rm && relsB l sy (p + rm) (rl.drop (k + 1))) = r) := Lib.hid (by have := HQ3.out; rwa [decide_eq_true (by rw [HFZ.out]; omega), Bool.true_and] at this)
            clear HQ3
            have q0 : U.cell? ⟨B4, 0, none⟩ = some (.int .u64 p) := HX5.out.cell 0
            have q1 : U.cell? ⟨B4, 1, none⟩ = some (.int .i64 (nn : Int)) := HX5.out.cell 1
            have o0 : U.cell? ⟨B, 0, none⟩ = some v0 := HBX5.out.cell 0
            have o1 : U.cell? ⟨B, 1, none⟩ = some v1 := HBX5.out.cell 1
            have o2 : U.cell? ⟨B, 2, none⟩ = some (.slice ga m gc) := HBX5.out.cell 2
            have o3 : U.cell? ⟨B, 3, none⟩ = some (.slice sa ms sc) := HBX5.out.cell 3
            have o4 : U.cell? ⟨B, 4, none⟩ = some (.slice (some ⟨g, off, none⟩) mr rc) := HBX5.out.cell 4
            have o5 : U.cell? ⟨B, 5, none⟩ = some v5 := HBX5.out.cell 5
            have o6 : U.cell? ⟨B, 6, none⟩ = some v6 := HBX5.out.cell 6
            have hBlu : B < U.heap.size := HBX5.out.lt
            have hB4lu : B4 < U.heap.size := HX5.out.lt
            have HS2 := Lib.hid (show U.cell? ⟨B, 0, none⟩ = some v0 ∧ U.cell? ⟨B, 1, none⟩ = some v1 ∧ U.cell? ⟨B, 2, none⟩ = some (.slice ga m gc) ∧ U.cell? ⟨B, 3, none⟩ = some (.slice sa ms sc) ∧ U.cell? ⟨B, 4, none⟩ = some (.slice (some ⟨g, off, none⟩) mr rc) ∧ U.cell? ⟨B, 5, none⟩ = some v5 ∧ U.cell? ⟨B, 6, none⟩ = some v6 ∧ U.cell? ⟨B4, 0, none⟩ = some (.int .u64 p) ∧ U.cell? ⟨B4, 1, none⟩ = some (.int .i64 (nn : Int)) from ⟨o0, o1, o2, o3, o4, o5, o6, q0, q1⟩)
            have HC1 := Lib.hid (HC1.out U.drew (bTrans HB5.out (below_dN U 1)))
            obtain ⟨ai, hai⟩ : ∃ ai, atF l p rm = ai := ⟨_, rfl⟩
            rw [hai] at HC2
            have HAI := Lib.hid hai
            clear hai
            go_upto_region 9 with fail
            go_region_held3 (fun W => W.cell? ⟨B, 0, none⟩ = some v0 ∧ W.cell? ⟨B, 1, none⟩ = some v1 ∧ W.cell? ⟨B, 2, none⟩ = some (.slice ga m gc) ∧ W.cell? ⟨B, 3, none⟩ = some (.slice sa ms sc) ∧ W.cell? ⟨B, 4, none⟩ = some (.slice (some ⟨g, off, none⟩) mr rc) ∧ W.cell? ⟨B, 5, none⟩ = some v5 ∧ W.cell? ⟨B, 6, none⟩ = some v6 ∧ W.cell? ⟨B4, 0, none⟩ = some (.int .u64 p) ∧ W.cell? ⟨B4, 1, none⟩ = some (.int .i64 (nn : Int)))
              (first | exact HS4.out | exact HS3.out | exact HS2.out | go_keep)
              (first
                | (go_at_call 52; refine HC1.out.mono ?_; rintro e w6 ⟨rfl, hb6⟩; have HB6 := Lib.hid (bTrans (below_dN U 1) hb6); have HS3 := Lib.hid (show w6.cell? ⟨B, 0, none⟩ = some v0 ∧ w6.cell? ⟨B, 1, none⟩ = some v1 ∧ w6.cell? ⟨B, 2, none⟩ = some (.slice ga m gc) ∧ w6.cell? ⟨B, 3, none⟩ = some (.slice sa ms sc) ∧ w6.cell? ⟨B, 4, none⟩ = some (.slice (some ⟨g, off, none⟩) mr rc) ∧ w6.cell? ⟨B, 5, none⟩ = some v5 ∧ w6.cell? ⟨B, 6, none⟩ = some v6 ∧ w6.cell? ⟨B4, 0, none⟩ = some (.int .u64 p) ∧ w6.cell? ⟨B4, 1, none⟩ = some (.int .i64 (nn : Int)) from ⟨cell_below HB6.out HS2.out.1, cell_below HB6.out HS2.out.2.1, cell_below HB6.out HS2.out.2.2.1, cell_below HB6.out HS2.out.2.2.2.1, cell_below HB6.out HS2.out.2.2.2.2.1, cell_below HB6.out HS2.out.2.2.2.2.2.1, cell_below HB6.out HS2.out.2.2.2.2.2.2.1, cell_below HB6.out HS2.out.2.2.2.2.2.2.2.1, cell_below HB6.out HS2.out.2.2.2.2.2.2.2.2⟩); clear hb6)
                | (go_at_call 51; refine (HC2.out w6 (bTrans HB5.out HB6.out)).mono ?_; rintro e w7 ⟨rfl, hb7⟩; have HB7 := Lib.hid (bTrans HB6.out hb7); have HS4 := Lib.hid (show w7.cell? ⟨B, 0, none⟩ = some v0 ∧ w7.cell? ⟨B, 1, none⟩ = some v1 ∧ w7.cell? ⟨B, 2, none⟩ = some (.slice ga m gc) ∧ w7.cell? ⟨B, 3, none⟩ = some (.slice sa ms sc) ∧ w7.cell? ⟨B, 4, none⟩ = some (.slice (some ⟨g, off, none⟩) mr rc) ∧ w7.cell? ⟨B, 5, none⟩ = some v5 ∧ w7.cell? ⟨B, 6, none⟩ = some v6 ∧ w7.cell? ⟨B4, 0, none⟩ = some (.int .u64 p) ∧ w7.cell? ⟨B4, 1, none⟩ = some (.int .i64 (nn : Int)) from ⟨cell_below HB7.out HS2.out.1, cell_below HB7.out HS2.out.2.1, cell_below HB7.out HS2.out.2.2.1, cell_below HB7.out HS2.out.2.2.2.1, cell_below HB7.out HS2.out.2.2.2.2.1, cell_below HB7.out HS2.out.2.2.2.2.2.1, cell_below HB7.out HS2.out.2.2.2.2.2.2.1, cell_below HB7.out HS2.out.2.2.2.2.2.2.2.1, cell_below HB7.out HS2.out.2.2.2.2.2.2.2.2⟩); clear hb7))
            clear o0 o1 o2 o3 o4 o5 o6 q0 q1
            have HB8 := Lib.hid (bTrans HB5.out HB7.out)
            have HBX8 := Lib.hid (boxN_below HBX5.out HB7.out)
            by_cases h0 : 0 ≤ ai
            · obtain ⟨ki, rfl⟩ := Int.eq_ofNat_of_zero_le h0
              obtain ⟨hkil, -⟩ := firstI_hit HAI.out
              obtain ⟨gg, offg, hge, -, -, -, f2, -⟩ := (HG.out.below HB8.out).at_ hkil
              subst hge
              have o2 : w7.cell? ⟨B, 2, none⟩ = some (.slice (some ⟨gg, offg, none⟩) m gc) := HBX8.out.cell 2
              have kb0 : (0 : Int) ≤ (ki : Int) := by omega
              have kb1 : (ki : Int) < (m : Int) := by rw [← HM.out]; omega
              have kb2 : ¬ (ki : Int) < 0 := by omega
              have HFL : Hid (l[ki].flags = 2 ∨ l[ki].flags = 3 → writeB l p rm = true) := Lib.hid (fun h => write_of_at HAI.out hkil h)
              have HFN : Hid (writeB l p rm = true → 0 < rm → l[ki].flags = 2 ∨ l[ki].flags = 3) := Lib.hid (fun h h1 => by
                obtain ⟨j, hj, h2, h3⟩ := at_write HSB.out h1 h
                rw [HAI.out] at h2
                obtain rfl : ki = j := by omega
                exact h3)
              obtain ⟨f, hf⟩ : ∃ f, l[ki].flags = f := ⟨_, rfl⟩
              rw [hf] at f2 HFL HFN
              clear hf hkil
              by_cases hf2 : f = 2 ∨ f = 3
              · have hw := HFL.out hf2
                have hend := writeB_end HSB.out hw
                have HQ5 : Hid (relsB l sy (p + rm) (rl.drop (k + 1)) = r) := Lib.hid (by have := HQ4.out; rwa [hw, Bool.true_and] at this)
                have HAH3 := Lib.hid (HAH2.out nn rfl (by rw [HMS.out]; exact hnn) p0 (by omega))
                clear hw hend
                rcases hf2 with rfl | rfl
                · go_wp2_with fail
                  go_roundw
                  case rel => exact ⟨k + 1, _, by go_num, by omega, HAH3, HQ5, HB8, HBX8⟩
                  case measure => simp [intOf]; omega
                · go_wp2_with fail
                  go_roundw
                  case rel => exact ⟨k + 1, _, by go_num, by omega, HAH3, HQ5, HB8, HBX8⟩
                  case measure => simp [intOf]; omega
              · have hrf : false = r := by
                  rw [← HQ4.out]
                  symm
                  rw [Bool.and_eq_false_iff]
                  left
                  rw [Bool.eq_false_iff]
                  exact fun h => hf2 (HFN.out h hrm0)
                subst hrf
                have hf3 : ¬ f = 2 := fun h => hf2 (Or.inl h)
                have hf4 : ¬ f = 3 := fun h => hf2 (Or.inr h)
                clear hf2
                go_wp2_with fail
                all_goals first
                  | (go_ret; exact ⟨rfl, HB8.out⟩)
                  | (exfalso
                     (try simp only [bne_iff_ne, ne_eq, bne_eq_false_iff_eq, Bool.not_eq_true', Bool.not_eq_false', beq_iff_eq, beq_eq_false_iff_ne] at *)
                     omega)
            · have hrf : false = r := by
                rw [← HQ4.out]
                symm
                rw [Bool.and_eq_false_iff]
                left
                rw [Bool.eq_false_iff]
                intro h
                obtain ⟨j, hj, h2, h3⟩ := at_write HSB.out hrm0 h
                rw [HAI.out] at h2
                omega
              subst hrf
              have kb2 : ai < 0 := by omega
              go_wp2_with fail
              go_ret
              exact ⟨rfl, HB8.out⟩
      · have hrf : false = r := by
          rw [← HQ2.out]
          symm
          rw [Bool.and_eq_false_iff]
          left
          rw [Bool.eq_false_iff]
          intro hh
          simp only [Bool.and_eq_true, decide_eq_true_eq] at hh
          exact hC ⟨hh.1, hh.2.1, hh.2.2.1⟩
        subst hrf
        clear hkl
        go_wp2_with fail
        all_goals first
          | (go_ret; exact ⟨rfl, HB4.out⟩)
          | (exfalso
             (try simp only [bne_iff_ne, ne_eq, bne_eq_false_iff_eq, Bool.not_eq_true', Bool.not_eq_false', beq_iff_eq, beq_eq_false_iff_ne] at *)
             omega)
    · have hk2 : k = mr := by omega
      subst hk2
      have hn1 : true = r := by
        rw [← HQ.out, List.drop_eq_nil_of_le (by rw [HMR.out]; omega)]
        rfl
      subst hn1
      go_wp2_with fail
      go_ret
      exact ⟨rfl, HB.out⟩
end Go.Proofs.Yteaididdamihlaa.Ce

namespace Go.Proofs.Yteaididdamihlaa.Ce
set_option linter.unusedVariables false
set_option linter.unusedSimpArgs false
open Go.Joins Go.ChangeShapes Go.WideShapes Go.ChangeAt Go.RowKit Go.Deep

set_option maxHeartbeats 4000000 in
set_option maxRecDepth 100000 in
theorem rlists_any (v0 v1 v2 v4 v5 v6 : Value) (sa la : Option Addr) (ms sc n lc : Nat) (sy : List Sym) (li : List Int) (w : World) (hms : sy.length = ms) (hn : li.length = n) (hs : RdS w sa sy) (hl : Rd w la n (i64s li)) (hls : ms < 9223372036854775808) (hln : n < 9223372036854775808) :
    Calls Try.prog 38 #[.agg #[v0, v1, v2, .slice sa ms sc, v4, v5, v6], .slice la n lc] w fun e w' => e = .returned (.bool (li.all (fnB sy))) ∧ Below w.heap.size w w' := by
  obtain ⟨r, hrr⟩ : ∃ r, li.all (fnB sy) = r := ⟨_, rfl⟩
  rw [hrr]
  have HS := Lib.hid hs
  have HL := Lib.hid hl
  have HMS := Lib.hid hms
  have HN := Lib.hid hn
  have HRR := Lib.hid hrr
  obtain ⟨W, hW⟩ : ∃ W, w.alloc (.cells #[v0, v1, v2, .slice sa ms sc, v4, v5, v6] 28) = W := ⟨_, rfl⟩
  obtain ⟨B, hB⟩ : ∃ B, w.heap.size = B := ⟨_, rfl⟩
  have HBX : Hid (BoxN W B #[v0, v1, v2, .slice sa ms sc, v4, v5, v6]) := Lib.hid (by rw [← hW, ← hB]; exact BoxN.new w _ _)
  have HBW : Hid (Below w.heap.size w W) := Lib.hid (by rw [← hW]; exact bAlloc (Below.refl _ _) _)
  have HW := Lib.hid hW
  have HBE := Lib.hid hB
  clear hms hn hs hl hrr hW hB
  go_enter Try.func38, Try.ntmps38
  go_upto_region 1 with fail
  rw [HW.out, HBE.out]
  clear HW
  go_wp2_with fail
  go_loopw [5] (fun i wr => ∃ k : Nat, i = .int .i64 k ∧ k ≤ n ∧ Hid ((li.take k).all (fnB sy) = true) ∧ Hid (Below w.heap.size w wr) ∧ Hid (BoxN wr B #[v0, v1, v2, .slice sa ms sc, v4, v5, v6])) (fun i _ => n - (intOf i).toNat)
  case atStart => exact ⟨0, rfl, by omega, Lib.hid rfl, HBW, HBX⟩
  case round =>
    clear HBX
    obtain ⟨k, rfl, hk, HQ, HB, HBX⟩ := hrel
    by_cases hlt : k < n
    · have hkl : k < li.length := by rw [HN.out]; exact hlt
      obtain ⟨g, off, hge, -, c0⟩ := (HL.out.below HB.out).at_ hlt
      subst hge
      rw [i64s_get li k hkl] at c0
      have HT := Lib.hid (all_take (fnB sy) li k hkl)
      have HMI := Lib.hid (all_miss (fnB sy) li k hkl)
      obtain ⟨x, hx⟩ : ∃ x, li[k] = x := ⟨_, rfl⟩
      rw [hx] at c0 HT HMI
      have hfn : fnB sy x = (decide (0 ≤ x) && (decide (x < sy.length) && (match sy[x.toNat]? with
        | some s => s.defd && decide (s.kind = 1)
        | none => false))) := rfl
      have HFN := Lib.hid hfn
      have kk0 : (0 : Int) ≤ (k : Int) := by omega
      have kk1 : (k : Int) < (n : Int) := by omega
      have o3 : wr.cell? ⟨B, 3, none⟩ = some (.slice sa ms sc) := HBX.out.cell 3
      clear hx hkl hfn
      by_cases h0 : x < 0
      · have h0d : decide (x < 0) = true := decide_eq_true h0
        have hrf : false = r := by rw [← HRR.out, HMI.out (by rw [HFN.out, decide_eq_false (by omega)]; rfl)]
        subst hrf
        go_wp2_with fail
        go_quiet (fail)
        go_wp2_with fail
        go_ret
        exact ⟨rfl, bTrans HB.out (below_dN _ _)⟩
      · have h0d : decide (x < 0) = false := decide_eq_false h0
        obtain ⟨xn, rfl⟩ := Int.eq_ofNat_of_zero_le (show 0 ≤ x by omega)
        by_cases h1 : ms ≤ xn
        · have h1i : (ms : Int) ≤ (xn : Int) := by omega
          have h1d : decide ((ms : Int) ≤ (xn : Int)) = true := decide_eq_true h1i
          have hrf : false = r := by rw [← HRR.out, HMI.out (by rw [HFN.out, HMS.out, decide_eq_false (show ¬ (xn : Int) < (ms : Int) by omega)]; simp)]
          subst hrf
          go_wp2_with fail
          go_quiet (fail)
          go_wp2_with fail
          go_ret
          exact ⟨rfl, bTrans HB.out (below_dN _ _)⟩
        · have h1i : ¬ (ms : Int) ≤ (xn : Int) := by omega
          have h1d : decide ((ms : Int) ≤ (xn : Int)) = false := decide_eq_false h1i
          have hxl : xn < sy.length := by rw [HMS.out]; omega
          obtain ⟨gs, fs, hgs, -, s0, s1, s2, s3, s4, s5, s6, s7⟩ := (HS.out.below HB.out).at_ hxl
          subst hgs
          have hfn2 : fnB sy (xn : Int) = (sy[xn].defd && decide (sy[xn].kind = 1)) := by
            rw [HFN.out, decide_eq_true (show (0 : Int) ≤ (xn : Int) by omega), decide_eq_true (show (xn : Int) < (sy.length : Int) by omega), Int.toNat_natCast, List.getElem?_eq_getElem hxl]
            rfl
          obtain ⟨s, hs⟩ : ∃ s, sy[xn] = s := ⟨_, rfl⟩
          rw [hs] at s0 s1 s2 s3 s4 s5 s6 s7 hfn2
          obtain ⟨nm, vr, pl, sz, kd, bd, sn, df⟩ := s
          simp only [] at s0 s1 s2 s3 s4 s5 s6 s7 hfn2
          have HF2 := Lib.hid hfn2
          have x0 : (0 : Int) ≤ (xn : Int) := by omega
          have x1 : (xn : Int) < (ms : Int) := by omega
          clear hfn2 hs hxl HFN
          go_wp2_with fail
          go_quiet (fail)
          go_upto_region 6 with fail
          have tr0 : ∀ {b o : Nat} {v : Value}, wr.cell? ⟨b, o, none⟩ = some v → (wr.drewN nq).cell? ⟨b, o, none⟩ = some v := fun h => h
          replace c0 := tr0 c0
          replace o3 := tr0 o3
          replace s0 := tr0 s0
          replace s1 := tr0 s1
          replace s2 := tr0 s2
          replace s3 := tr0 s3
          replace s4 := tr0 s4
          replace s5 := tr0 s5
          replace s6 := tr0 s6
          replace s7 := tr0 s7
          clear tr0
          have HB5 := Lib.hid (bTrans HB.out (below_dN wr nq))
          have HX5 := Lib.hid (boxN_below HBX.out (below_dN wr nq))
          obtain ⟨U, hU⟩ : ∃ U, wr.drewN nq = U := ⟨_, rfl⟩
          rw [hU] at HB5 HX5 c0 o3 s0 s1 s2 s3 s4 s5 s6 s7 ⊢
          clear hU
          have HF := Lib.hid (show U.cell? ⟨g, off + k, none⟩ = some (.int .i64 (xn : Int)) ∧ U.cell? ⟨B, 3, none⟩ = some (.slice (some ⟨gs, fs, none⟩) ms sc) ∧ U.cell? ⟨gs, fs + xn * 8, none⟩ = some (.string ⟨nm.toArray⟩) ∧ U.cell? ⟨gs, fs + xn * 8 + 1, none⟩ = some (.string ⟨vr.toArray⟩) ∧ U.cell? ⟨gs, fs + xn * 8 + 2, none⟩ = some (.int .u64 pl) ∧ U.cell? ⟨gs, fs + xn * 8 + 3, none⟩ = some (.int .u64 sz) ∧ U.cell? ⟨gs, fs + xn * 8 + 4, none⟩ = some (.int .i64 kd) ∧ U.cell? ⟨gs, fs + xn * 8 + 5, none⟩ = some (.int .i64 bd) ∧ U.cell? ⟨gs, fs + xn * 8 + 6, none⟩ = some (.int .i64 sn) ∧ U.cell? ⟨gs, fs + xn * 8 + 7, none⟩ = some (.bool df) from ⟨c0, o3, s0, s1, s2, s3, s4, s5, s6, s7⟩)
          go_region_held3 (fun W => W.cell? ⟨g, off + k, none⟩ = some (.int .i64 (xn : Int)) ∧ W.cell? ⟨B, 3, none⟩ = some (.slice (some ⟨gs, fs, none⟩) ms sc) ∧ W.cell? ⟨gs, fs + xn * 8, none⟩ = some (.string ⟨nm.toArray⟩) ∧ W.cell? ⟨gs, fs + xn * 8 + 1, none⟩ = some (.string ⟨vr.toArray⟩) ∧ W.cell? ⟨gs, fs + xn * 8 + 2, none⟩ = some (.int .u64 pl) ∧ W.cell? ⟨gs, fs + xn * 8 + 3, none⟩ = some (.int .u64 sz) ∧ W.cell? ⟨gs, fs + xn * 8 + 4, none⟩ = some (.int .i64 kd) ∧ W.cell? ⟨gs, fs + xn * 8 + 5, none⟩ = some (.int .i64 bd) ∧ W.cell? ⟨gs, fs + xn * 8 + 6, none⟩ = some (.int .i64 sn) ∧ W.cell? ⟨gs, fs + xn * 8 + 7, none⟩ = some (.bool df))
            (first | exact HF.out | go_keep)
            (fail)
          obtain ⟨U2, hU2⟩ : ∃ W, (U.alloc (.cells #[.string ⟨nm.toArray⟩, .string ⟨vr.toArray⟩, .int .u64 pl, .int .u64 sz, .int .i64 kd, .int .i64 bd, .int .i64 sn, .bool df] 84)).drew = W := ⟨_, rfl⟩
          rw [hU2]
          have HB6 : Hid (Below w.heap.size w U2) := Lib.hid (by rw [← hU2]; exact Below.drew (bAlloc HB5.out _))
          have HX6 : Hid (BoxN U2 B #[v0, v1, v2, .slice (some ⟨gs, fs, none⟩) ms sc, v4, v5, v6]) := Lib.hid (by rw [← hU2]; exact boxN_below HX5.out (Below.drew (bAlloc (Below.refl _ _) _)))
          have hbx : BoxN U2 U.heap.size #[.string ⟨nm.toArray⟩, .string ⟨vr.toArray⟩, .int .u64 pl, .int .u64 sz, .int .i64 kd, .int .i64 bd, .int .i64 sn, .bool df] := by rw [← hU2]; exact boxN_drew (BoxN.new _ _ _)
          have y4 : U2.cell? ⟨U.heap.size, 4, none⟩ = some (.int .i64 kd) := hbx.cell 4
          have y7 : U2.cell? ⟨U.heap.size, 7, none⟩ = some (.bool df) := hbx.cell 7
          clear hU2 hbx c0 o3 s0 s1 s2 s3 s4 s5 s6 s7
          cases df with
          | false =>
            have hrf : false = r := by rw [← HRR.out, HMI.out (by rw [HF2.out]; rfl)]
            subst hrf
            go_wp2_with fail
            go_ret
            exact ⟨rfl, HB6.out⟩
          | true =>
            by_cases hk1 : kd = 1
            · subst hk1
              have HQ2 : Hid ((li.take (k + 1)).all (fnB sy) = true) := Lib.hid (by rw [HT.out, HQ.out, HF2.out]; rfl)
              go_wp2_with fail
              go_roundw
              case rel => exact ⟨k + 1, by go_num, by omega, HQ2, HB6, HX6⟩
              case measure => simp [intOf]; omega
            · have hrf : false = r := by rw [← HRR.out, HMI.out (by rw [HF2.out, decide_eq_false hk1]; rfl)]
              subst hrf
              have hk1n : (kd == 1) = false := by simp [hk1]
              go_wp2_with fail
              go_ret
              exact ⟨rfl, HB6.out⟩
    · have hk2 : k = n := by omega
      subst hk2
      have hrt : true = r := by
        have := HQ.out
        rw [List.take_of_length_le (by rw [HN.out]; omega), HRR.out] at this
        exact this.symm
      subst hrt
      go_wp2_with fail
      go_ret
      exact ⟨rfl, HB.out⟩
end Go.Proofs.Yteaididdamihlaa.Ce

namespace Go.Proofs.Yteaididdamihlaa.Ce
set_option linter.unusedVariables false
set_option linter.unusedSimpArgs false
open Go.Joins Go.ChangeShapes Go.WideShapes Go.ChangeAt Go.RowKit Go.Deep

set_option maxHeartbeats 4000000 in
set_option maxRecDepth 100000 in
theorem rcheck_any (o : Ob) (w : World) (hr : RdOb w o) (hf : FitOb o) :
    Calls Try.prog 21 #[.agg (objC o).toArray] w fun e w' => e = .returned (.int .i64 (checkF o)) ∧ Below w.heap.size w w' := by
  obtain ⟨r, hrr⟩ : ∃ r, checkF o = r := ⟨_, rfl⟩
  rw [hrr]
  unfold checkF at hrr
  obtain ⟨nm, nd, sg, sy, rl, ini, fin, na, nc, ga, gc, sa, sc, ra, rc, ia, ic, fa, fc⟩ := o
  obtain ⟨r1, r2, -, r4, r5, r6, r7⟩ := hr
  obtain ⟨f0, f1, f2, f3, f4, f5, f6, f7, f8, f9, f10⟩ := hf
  unfold objC
  simp only [] at r1 r2 r4 r5 r6 r7 f0 f1 f2 f3 f4 f5 f6 f7 f8 f9 f10 hrr ⊢
  obtain ⟨m1, h1⟩ : ∃ m, nd.length = m := ⟨_, rfl⟩
  obtain ⟨m2, h2⟩ : ∃ m, sg.length = m := ⟨_, rfl⟩
  obtain ⟨m3, h3⟩ : ∃ m, sy.length = m := ⟨_, rfl⟩
  obtain ⟨m4, h4⟩ : ∃ m, rl.length = m := ⟨_, rfl⟩
  obtain ⟨m5, h5⟩ : ∃ m, ini.length = m := ⟨_, rfl⟩
  obtain ⟨m6, h6⟩ : ∃ m, fin.length = m := ⟨_, rfl⟩
  rw [h1] at f2
  rw [h2] at f3
  rw [h3] at f5
  rw [h4] at f7
  rw [h5] at f9
  rw [h6] at f10
  rw [h1] at r1
  rw [h5] at r6
  rw [h6] at r7
  have hq1 : namesB ⟨nm, nd, sg, sy, rl, ini, fin, na, nc, ga, gc, sa, sc, ra, rc, ia, ic, fa, fc⟩ = (nameB nm && needsB nm nd 0) := rfl
  have hq2 : countsB ⟨nm, nd, sg, sy, rl, ini, fin, na, nc, ga, gc, sa, sc, ra, rc, ia, ic, fa, fc⟩ = (decide (nd.length ≤ 8) && (decide (sg.length ≤ 6) && (decide (sy.length ≤ 40) && (decide (rl.length ≤ 60) && (decide (ini.length ≤ 8) && decide (fin.length ≤ 8)))))) := rfl
  rw [hq1, hq2, h1, h2, h3, h4, h5, h6] at hrr
  simp only [h1, h2, h3, h4, h5, h6]
  have hsg2 : ∀ s ∈ sg, u64B s.place ∧ u64B s.size := fun s hs => ⟨(f4 s hs).1, (f4 s hs).2.1⟩
  have HNM := Lib.hid (fun W (hW : Below w.heap.size w W) => rnames_any (.slice ga m2 gc) (.slice sa m3 sc) (.slice ra m4 rc) (.slice ia m5 ic) (.slice fa m6 fc) na m1 nc nm nd W h1 (r1.below hW) f2 f0 f1)
  have HSG := Lib.hid (fun W (hW : Below w.heap.size w W) => rsegs_any ga m2 gc sg W h2 (r2.below hW) f3 f4)
  have HSY := Lib.hid (fun W (hW : Below w.heap.size w W) s (hs : s ∈ sy) => rsym_any (.string ⟨nm.toArray⟩) (.slice na m1 nc) (.slice sa m3 sc) (.slice ra m4 rc) (.slice ia m5 ic) (.slice fa m6 fc) ga m2 gc sg s W h2 (r2.below hW) f3 hsg2 (f6 s hs))
  have HRL := Lib.hid (fun (hsb : segsB 0 sg = true) W (hW : Below w.heap.size w W) => rrelocs_any (.string ⟨nm.toArray⟩) (.slice na m1 nc) (.slice ia m5 ic) (.slice fa m6 fc) ga sa ra m2 gc m3 sc m4 rc sg sy rl W h2 h3 h4 (r2.below hW) (r4.below hW) (r5.below hW) f3 f5 f7 hsb hsg2 f8)
  have HL1 := Lib.hid (fun W (hW : Below w.heap.size w W) => rlists_any (.string ⟨nm.toArray⟩) (.slice na m1 nc) (.slice ga m2 gc) (.slice ra m4 rc) (.slice ia m5 ic) (.slice fa m6 fc) sa ia m3 sc m5 ic sy ini W h3 h5 (r4.below hW) (r6.below hW) f5 f9)
  have HL2 := Lib.hid (fun W (hW : Below w.heap.size w W) => rlists_any (.string ⟨nm.toArray⟩) (.slice na m1 nc) (.slice ga m2 gc) (.slice ra m4 rc) (.slice ia m5 ic) (.slice fa m6 fc) sa fa m3 sc m6 fc sy fin W h3 h6 (r4.below hW) (r7.below hW) f5 f10)
  have HS := Lib.hid r4
  have H3 := Lib.hid h3
  have ht := Lib.hid (fun k (h : k < sy.length) => all_take (symB sg) sy k h)
  have hmi := Lib.hid (fun k (h : k < sy.length) => all_miss (symB sg) sy k h)
  have HF6 := Lib.hid f6
  obtain ⟨q1, hq1'⟩ : ∃ q, (nameB nm && needsB nm nd 0) = q := ⟨_, rfl⟩
  obtain ⟨q2, hq2'⟩ : ∃ q, (decide (m1 ≤ 8) && (decide (m2 ≤ 6) && (decide (m3 ≤ 40) && (decide (m4 ≤ 60) && (decide (m5 ≤ 8) && decide (m6 ≤ 8)))))) = q := ⟨_, rfl⟩
  obtain ⟨q3, hq3⟩ : ∃ q, segsB 0 sg = q := ⟨_, rfl⟩
  obtain ⟨q4, hq4⟩ : ∃ q, sy.all (symB sg) = q := ⟨_, rfl⟩
  obtain ⟨q5, hq5⟩ : ∃ q, relsB sg sy 0 rl = q := ⟨_, rfl⟩
  obtain ⟨q6, hq6⟩ : ∃ q, ini.all (fnB sy) = q := ⟨_, rfl⟩
  obtain ⟨q7, hq7⟩ : ∃ q, fin.all (fnB sy) = q := ⟨_, rfl⟩
  rw [hq1', hq2', hq3, hq4, hq5, hq6, hq7] at hrr
  rw [hq1'] at HNM
  rw [hq3] at HSG
  simp only [hq3, hq5] at HRL
  rw [hq6] at HL1
  rw [hq7] at HL2
  have HR := Lib.hid hrr
  have HQ2 := Lib.hid hq2'
  have HQ4 := Lib.hid hq4
  obtain ⟨W, hW⟩ : ∃ W, w.alloc (.cells #[.string ⟨nm.toArray⟩, .slice na m1 nc, .slice ga m2 gc, .slice sa m3 sc, .slice ra m4 rc, .slice ia m5 ic, .slice fa m6 fc] 28) = W := ⟨_, rfl⟩
  obtain ⟨B, hB⟩ : ∃ B, w.heap.size = B := ⟨_, rfl⟩
  have HX : Hid (BoxN W B #[.string ⟨nm.toArray⟩, .slice na m1 nc, .slice ga m2 gc, .slice sa m3 sc, .slice ra m4 rc, .slice ia m5 ic, .slice fa m6 fc]) := Lib.hid (by rw [← hW, ← hB]; exact BoxN.new w _ _)
  have HB : Hid (Below w.heap.size w W) := Lib.hid (by rw [← hW]; exact bAlloc (Below.refl _ _) _)
  have HW := Lib.hid hW
  have HBE := Lib.hid hB
  clear hrr hq1 hq2 hq1' hq2' hq3 hq4 hq5 hq6 hq7 h1 h2 h3 h4 h5 h6 r1 r2 r4 r5 r6 r7 f0 f1 f4 f6 f8 hsg2 hW hB
  go_enter Try.func21, Try.ntmps21
  go_upto_region 1 with fail
  rw [HW.out, HBE.out]
  clear HW
  have e0 : W.cell? ⟨B, 0, none⟩ = some (.string ⟨nm.toArray⟩) := HX.out.cell 0
  have e1 : W.cell? ⟨B, 1, none⟩ = some (.slice na m1 nc) := HX.out.cell 1
  have e2 : W.cell? ⟨B, 2, none⟩ = some (.slice ga m2 gc) := HX.out.cell 2
  have e3 : W.cell? ⟨B, 3, none⟩ = some (.slice sa m3 sc) := HX.out.cell 3
  have e4 : W.cell? ⟨B, 4, none⟩ = some (.slice ra m4 rc) := HX.out.cell 4
  have e5 : W.cell? ⟨B, 5, none⟩ = some (.slice ia m5 ic) := HX.out.cell 5
  have e6 : W.cell? ⟨B, 6, none⟩ = some (.slice fa m6 fc) := HX.out.cell 6
  go_wp2_with fail
  refine (HNM.out W HB.out).mono ?_; rintro e W1 ⟨rfl, hb'⟩
  have HX := Lib.hid (boxN_below HX.out hb')
  have HB := Lib.hid (bTrans HB.out hb')
  clear hb'
  clear e0 e1 e2 e3 e4 e5 e6
  have e0 : W1.cell? ⟨B, 0, none⟩ = some (.string ⟨nm.toArray⟩) := HX.out.cell 0
  have e1 : W1.cell? ⟨B, 1, none⟩ = some (.slice na m1 nc) := HX.out.cell 1
  have e2 : W1.cell? ⟨B, 2, none⟩ = some (.slice ga m2 gc) := HX.out.cell 2
  have e3 : W1.cell? ⟨B, 3, none⟩ = some (.slice sa m3 sc) := HX.out.cell 3
  have e4 : W1.cell? ⟨B, 4, none⟩ = some (.slice ra m4 rc) := HX.out.cell 4
  have e5 : W1.cell? ⟨B, 5, none⟩ = some (.slice ia m5 ic) := HX.out.cell 5
  have e6 : W1.cell? ⟨B, 6, none⟩ = some (.slice fa m6 fc) := HX.out.cell 6
  cases q1 with
  | false =>
    have hrf : 103 = r := HR.out
    subst hrf
    go_wp2_with fail
    go_ret
    exact ⟨rfl, HB.out⟩
  | true =>
    go_upto_region 4 with fail
    go_cut [47] from 10 (fun s47 wd => s47 = .bool (!q2) ∧ wd = W1)
    case first =>
      go_wp2_with fail
      all_goals
        go_meet
        case rel =>
          refine ⟨?_, rfl⟩
          congr 1
          rw [← HQ2.out, Bool.eq_iff_iff]
          simp
          try omega
    case rest =>
      obtain ⟨rfl, rfl⟩ := hcut
      cases q2 with
      | false =>
        have hrf : 104 = r := HR.out
        subst hrf
        go_wp2_with fail
        go_ret
        exact ⟨rfl, HB.out⟩
      | true =>
        go_wp2_with fail
        refine (HSG.out wc HB.out).mono ?_; rintro e W3 ⟨rfl, hb'⟩
        have HX := Lib.hid (boxN_below HX.out hb')
        have HB := Lib.hid (bTrans HB.out hb')
        clear hb'
        clear e0 e1 e2 e3 e4 e5 e6
        have e0 : W3.cell? ⟨B, 0, none⟩ = some (.string ⟨nm.toArray⟩) := HX.out.cell 0
        have e1 : W3.cell? ⟨B, 1, none⟩ = some (.slice na m1 nc) := HX.out.cell 1
        have e2 : W3.cell? ⟨B, 2, none⟩ = some (.slice ga m2 gc) := HX.out.cell 2
        have e3 : W3.cell? ⟨B, 3, none⟩ = some (.slice sa m3 sc) := HX.out.cell 3
        have e4 : W3.cell? ⟨B, 4, none⟩ = some (.slice ra m4 rc) := HX.out.cell 4
        have e5 : W3.cell? ⟨B, 5, none⟩ = some (.slice ia m5 ic) := HX.out.cell 5
        have e6 : W3.cell? ⟨B, 6, none⟩ = some (.slice fa m6 fc) := HX.out.cell 6
        cases q3 with
        | false =>
          have hrf : 105 = r := HR.out
          subst hrf
          go_wp2_with fail
          go_ret
          exact ⟨rfl, HB.out⟩
        | true =>
          have HR4 : Hid ((if !q4 then 106 else if !q5 then 107 else if !(q6 && q7) then 108 else 0) = r) := Lib.hid HR.out
          clear HR
          go_upto_block 0 with fail
          go_cut [5] from 10 (fun s5 wd => q4 = true ∧ Hid (Below w.heap.size w wd) ∧ Hid (BoxN wd B #[.string ⟨nm.toArray⟩, .slice na m1 nc, .slice ga m2 gc, .slice sa m3 sc, .slice ra m4 rc, .slice ia m5 ic, .slice fa m6 fc]))
          case first =>
            go_wp2_with fail
            go_loopw [5] (fun i wr => ∃ k : Nat, i = .int .i64 k ∧ k ≤ m3 ∧ Hid ((sy.take k).all (symB sg) = true) ∧ Hid (Below w.heap.size w wr) ∧ Hid (BoxN wr B #[.string ⟨nm.toArray⟩, .slice na m1 nc, .slice ga m2 gc, .slice sa m3 sc, .slice ra m4 rc, .slice ia m5 ic, .slice fa m6 fc])) (fun i _ => m3 - (intOf i).toNat)
            case atStart => exact ⟨0, rfl, by omega, Lib.hid rfl, HB, HX⟩
            case round =>
              clear HB HX e0 e1 e2 e3 e4 e5 e6
              obtain ⟨k, rfl, hk, HQ, HB, HX⟩ := hrel
              have e0 : wr.cell? ⟨B, 0, none⟩ = some (.string ⟨nm.toArray⟩) := HX.out.cell 0
              have e1 : wr.cell? ⟨B, 1, none⟩ = some (.slice na m1 nc) := HX.out.cell 1
              have e2 : wr.cell? ⟨B, 2, none⟩ = some (.slice ga m2 gc) := HX.out.cell 2
              have e3 : wr.cell? ⟨B, 3, none⟩ = some (.slice sa m3 sc) := HX.out.cell 3
              have e4 : wr.cell? ⟨B, 4, none⟩ = some (.slice ra m4 rc) := HX.out.cell 4
              have e5 : wr.cell? ⟨B, 5, none⟩ = some (.slice ia m5 ic) := HX.out.cell 5
              have e6 : wr.cell? ⟨B, 6, none⟩ = some (.slice fa m6 fc) := HX.out.cell 6
              by_cases hlt : k < m3
              · have hkl : k < sy.length := by rw [H3.out]; exact hlt
                obtain ⟨g, off, hge, -, s0, s1, s2, s3, s4, s5, s6, s7⟩ := (HS.out.below HB.out).at_ hkl
                subst hge
                have HT := Lib.hid (ht.out k hkl)
                have HMI := Lib.hid (hmi.out k hkl)
                have HC := Lib.hid (fun W hW => HSY.out W hW _ (List.getElem_mem hkl))
                obtain ⟨s, hs⟩ : ∃ s, sy[k] = s := ⟨_, rfl⟩
                rw [hs] at s0 s1 s2 s3 s4 s5 s6 s7 HT HMI HC
                obtain ⟨q, hq⟩ : ∃ q, symB sg s = q := ⟨_, rfl⟩
                rw [hq] at HT HMI HC
                obtain ⟨snm, svr, spl, ssz, skd, sbd, ssn, sdf⟩ := s
                simp only [] at s0 s1 s2 s3 s4 s5 s6 s7 HC
                have kk0 : (0 : Int) ≤ (k : Int) := by omega
                have kk1 : (k : Int) < (m3 : Int) := by omega
                have HC := Lib.hid (HC.out wr.drew (bTrans HB.out (below_dN wr 1)))
                have HS0 := Lib.hid (show wr.cell? ⟨B, 0, none⟩ = some (.string ⟨nm.toArray⟩) ∧ wr.cell? ⟨B, 1, none⟩ = some (.slice na m1 nc) ∧ wr.cell? ⟨B, 2, none⟩ = some (.slice ga m2 gc) ∧ wr.cell? ⟨B, 3, none⟩ = some (.slice (some ⟨g, off, none⟩) m3 sc) ∧ wr.cell? ⟨B, 4, none⟩ = some (.slice ra m4 rc) ∧ wr.cell? ⟨B, 5, none⟩ = some (.slice ia m5 ic) ∧ wr.cell? ⟨B, 6, none⟩ = some (.slice fa m6 fc) ∧ wr.cell? ⟨g, off + k * 8, none⟩ = some (.string ⟨snm.toArray⟩) ∧ wr.cell? ⟨g, off + k * 8 + 1, none⟩ = some (.string ⟨svr.toArray⟩) ∧ wr.cell? ⟨g, off + k * 8 + 2, none⟩ = some (.int .u64 spl) ∧ wr.cell? ⟨g, off + k * 8 + 3, none⟩ = some (.int .u64 ssz) ∧ wr.cell? ⟨g, off + k * 8 + 4, none⟩ = some (.int .i64 skd) ∧ wr.cell? ⟨g, off + k * 8 + 5, none⟩ = some (.int .i64 sbd) ∧ wr.cell? ⟨g, off + k * 8 + 6, none⟩ = some (.int .i64 ssn) ∧ wr.cell? ⟨g, off + k * 8 + 7, none⟩ = some (.bool sdf) from ⟨e0, e1, e2, e3, e4, e5, e6, s0, s1, s2, s3, s4, s5, s6, s7⟩)
                clear hs hq hkl
                go_upto_region 12 with fail
                go_region_held3 (fun W => W.cell? ⟨B, 0, none⟩ = some (.string ⟨nm.toArray⟩) ∧ W.cell? ⟨B, 1, none⟩ = some (.slice na m1 nc) ∧ W.cell? ⟨B, 2, none⟩ = some (.slice ga m2 gc) ∧ W.cell? ⟨B, 3, none⟩ = some (.slice (some ⟨g, off, none⟩) m3 sc) ∧ W.cell? ⟨B, 4, none⟩ = some (.slice ra m4 rc) ∧ W.cell? ⟨B, 5, none⟩ = some (.slice ia m5 ic) ∧ W.cell? ⟨B, 6, none⟩ = some (.slice fa m6 fc) ∧ W.cell? ⟨g, off + k * 8, none⟩ = some (.string ⟨snm.toArray⟩) ∧ W.cell? ⟨g, off + k * 8 + 1, none⟩ = some (.string ⟨svr.toArray⟩) ∧ W.cell? ⟨g, off + k * 8 + 2, none⟩ = some (.int .u64 spl) ∧ W.cell? ⟨g, off + k * 8 + 3, none⟩ = some (.int .u64 ssz) ∧ W.cell? ⟨g, off + k * 8 + 4, none⟩ = some (.int .i64 skd) ∧ W.cell? ⟨g, off + k * 8 + 5, none⟩ = some (.int .i64 sbd) ∧ W.cell? ⟨g, off + k * 8 + 6, none⟩ = some (.int .i64 ssn) ∧ W.cell? ⟨g, off + k * 8 + 7, none⟩ = some (.bool sdf))
                  (first | exact HS1.out | exact HS0.out | go_keep)
                  (first | (go_at_call 36; refine HC.out.mono ?_; rintro e w5 ⟨rfl, hb'⟩; have HBS := Lib.hid (bTrans (below_dN wr 1) hb'); have HS1 := Lib.hid (show w5.cell? ⟨B, 0, none⟩ = some (.string ⟨nm.toArray⟩) ∧ w5.cell? ⟨B, 1, none⟩ = some (.slice na m1 nc) ∧ w5.cell? ⟨B, 2, none⟩ = some (.slice ga m2 gc) ∧ w5.cell? ⟨B, 3, none⟩ = some (.slice (some ⟨g, off, none⟩) m3 sc) ∧ w5.cell? ⟨B, 4, none⟩ = some (.slice ra m4 rc) ∧ w5.cell? ⟨B, 5, none⟩ = some (.slice ia m5 ic) ∧ w5.cell? ⟨B, 6, none⟩ = some (.slice fa m6 fc) ∧ w5.cell? ⟨g, off + k * 8, none⟩ = some (.string ⟨snm.toArray⟩) ∧ w5.cell? ⟨g, off + k * 8 + 1, none⟩ = some (.string ⟨svr.toArray⟩) ∧ w5.cell? ⟨g, off + k * 8 + 2, none⟩ = some (.int .u64 spl) ∧ w5.cell? ⟨g, off + k * 8 + 3, none⟩ = some (.int .u64 ssz) ∧ w5.cell? ⟨g, off + k * 8 + 4, none⟩ = some (.int .i64 skd) ∧ w5.cell? ⟨g, off + k * 8 + 5, none⟩ = some (.int .i64 sbd) ∧ w5.cell? ⟨g, off + k * 8 + 6, none⟩ = some (.int .i64 ssn) ∧ w5.cell? ⟨g, off + k * 8 + 7, none⟩ = some (.bool sdf) from ⟨cell_below HBS.out HS0.out.1, cell_below HBS.out HS0.out.2.1, cell_below HBS.out HS0.out.2.2.1, cell_below HBS.out HS0.out.2.2.2.1, cell_below HBS.out HS0.out.2.2.2.2.1, cell_below HBS.out HS0.out.2.2.2.2.2.1, cell_below HBS.out HS0.out.2.2.2.2.2.2.1, cell_below HBS.out HS0.out.2.2.2.2.2.2.2.1, cell_below HBS.out HS0.out.2.2.2.2.2.2.2.2.1, cell_below HBS.out HS0.out.2.2.2.2.2.2.2.2.2.1, cell_below HBS.out HS0.out.2.2.2.2.2.2.2.2.2.2.1, cell_below HBS.out HS0.out.2.2.2.2.2.2.2.2.2.2.2.1, cell_below HBS.out HS0.out.2.2.2.2.2.2.2.2.2.2.2.2.1, cell_below HBS.out HS0.out.2.2.2.2.2.2.2.2.2.2.2.2.2.1, cell_below HBS.out HS0.out.2.2.2.2.2.2.2.2.2.2.2.2.2.2⟩); clear hb'))
                clear e0 e1 e2 e3 e4 e5 e6 s0 s1 s2 s3 s4 s5 s6 s7
                have HB5 := Lib.hid (bTrans HB.out HBS.out)
                have HX5 := Lib.hid (boxN_below HX.out HBS.out)
                cases q with
                | false =>
                  have hqf : false = q4 := by rw [← HQ4.out, HMI.out rfl]
                  subst hqf
                  have hrf : 106 = r := HR4.out
                  subst hrf
                  go_wp2_with fail
                  go_ret
                  exact ⟨rfl, HB5.out⟩
                | true =>
                  have HQN : Hid ((sy.take (k + 1)).all (symB sg) = true) := Lib.hid (by rw [HT.out, HQ.out]; rfl)
                  go_wp2_with fail
                  go_roundw
                  case rel => exact ⟨k + 1, by go_num, by omega, HQN, HB5, HX5⟩
                  case measure => simp [intOf]; omega
              · have hk2 : k = m3 := by omega
                subst hk2
                have hqt : q4 = true := by
                  have := HQ.out
                  rw [List.take_of_length_le (by rw [H3.out]; omega), HQ4.out] at this
                  exact this
                go_wp2_with fail
                go_meet
                case rel => exact ⟨hqt, HB, HX⟩
          case rest =>
            clear e0 e1 e2 e3 e4 e5 e6 HB HX
            obtain ⟨hq4t, HB, HX⟩ := hcut
            subst hq4t
            have HR5 : Hid ((if !q5 then 107 else if !(q6 && q7) then 108 else 0) = r) := Lib.hid HR4.out
            clear HR4
            have e0 : wc.cell? ⟨B, 0, none⟩ = some (.string ⟨nm.toArray⟩) := HX.out.cell 0
            have e1 : wc.cell? ⟨B, 1, none⟩ = some (.slice na m1 nc) := HX.out.cell 1
            have e2 : wc.cell? ⟨B, 2, none⟩ = some (.slice ga m2 gc) := HX.out.cell 2
            have e3 : wc.cell? ⟨B, 3, none⟩ = some (.slice sa m3 sc) := HX.out.cell 3
            have e4 : wc.cell? ⟨B, 4, none⟩ = some (.slice ra m4 rc) := HX.out.cell 4
            have e5 : wc.cell? ⟨B, 5, none⟩ = some (.slice ia m5 ic) := HX.out.cell 5
            have e6 : wc.cell? ⟨B, 6, none⟩ = some (.slice fa m6 fc) := HX.out.cell 6
            go_wp2_with fail
            refine (HRL.out (by trivial) wc HB.out).mono ?_; rintro e W5 ⟨rfl, hb'⟩
            have HX := Lib.hid (boxN_below HX.out hb')
            have HB := Lib.hid (bTrans HB.out hb')
            clear hb'
            clear e0 e1 e2 e3 e4 e5 e6
            have e0 : W5.cell? ⟨B, 0, none⟩ = some (.string ⟨nm.toArray⟩) := HX.out.cell 0
            have e1 : W5.cell? ⟨B, 1, none⟩ = some (.slice na m1 nc) := HX.out.cell 1
            have e2 : W5.cell? ⟨B, 2, none⟩ = some (.slice ga m2 gc) := HX.out.cell 2
            have e3 : W5.cell? ⟨B, 3, none⟩ = some (.slice sa m3 sc) := HX.out.cell 3
            have e4 : W5.cell? ⟨B, 4, none⟩ = some (.slice ra m4 rc) := HX.out.cell 4
            have e5 : W5.cell? ⟨B, 5, none⟩ = some (.slice ia m5 ic) := HX.out.cell 5
            have e6 : W5.cell? ⟨B, 6, none⟩ = some (.slice fa m6 fc) := HX.out.cell 6
            cases q5 with
            | false =>
              have hrf : 107 = r := HR5.out
              subst hrf
              go_wp2_with fail
              go_ret
              exact ⟨rfl, HB.out⟩
            | true =>
              have HR6 : Hid ((if !(q6 && q7) then 108 else 0) = r) := Lib.hid HR5.out
              clear HR5
              go_wp2_with fail
              refine (HL1.out W5 HB.out).mono ?_; rintro e W6 ⟨rfl, hb'⟩
              have HX := Lib.hid (boxN_below HX.out hb')
              have HB := Lib.hid (bTrans HB.out hb')
              clear hb'
              clear e0 e1 e2 e3 e4 e5 e6
              have e0 : W6.cell? ⟨B, 0, none⟩ = some (.string ⟨nm.toArray⟩) := HX.out.cell 0
              have e1 : W6.cell? ⟨B, 1, none⟩ = some (.slice na m1 nc) := HX.out.cell 1
              have e2 : W6.cell? ⟨B, 2, none⟩ = some (.slice ga m2 gc) := HX.out.cell 2
              have e3 : W6.cell? ⟨B, 3, none⟩ = some (.slice sa m3 sc) := HX.out.cell 3
              have e4 : W6.cell? ⟨B, 4, none⟩ = some (.slice ra m4 rc) := HX.out.cell 4
              have e5 : W6.cell? ⟨B, 5, none⟩ = some (.slice ia m5 ic) := HX.out.cell 5
              have e6 : W6.cell? ⟨B, 6, none⟩ = some (.slice fa m6 fc) := HX.out.cell 6
              go_wp2_with fail
              refine (HL2.out W6 HB.out).mono ?_; rintro e W7 ⟨rfl, hb'⟩
              have HX := Lib.hid (boxN_below HX.out hb')
              have HB := Lib.hid (bTrans HB.out hb')
              clear hb'
              clear e0 e1 e2 e3 e4 e5 e6
              cases q6 with
              | false =>
                have hrf : 108 = r := HR6.out
                subst hrf
                go_wp2_with fail
                go_ret
                exact ⟨rfl, HB.out⟩
              | true =>
                cases q7 with
                | false =>
                  have hrf : 108 = r := HR6.out
                  subst hrf
                  go_wp2_with fail
                  go_ret
                  exact ⟨rfl, HB.out⟩
                | true =>
                  have hrf : 0 = r := HR6.out
                  subst hrf
                  go_wp2_with fail
                  go_ret
                  exact ⟨rfl, HB.out⟩
end Go.Proofs.Yteaididdamihlaa.Ce

