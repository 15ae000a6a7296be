/- The document's names: contract. -/
import Derived.Test.YtidnojjhchmmgaaCgA
import Derived.Deep.RegionHeld3
import Derived.Deep.RegionLaw
import Derived.Deep.RegionWith
import Derived.Deep.Cut
import Derived.BigRegion
namespace Go.Proofs.Ytidnojjhchmmgaa
set_option linter.unusedVariables false
set_option linter.unusedSimpArgs false
open Go.Joins Go.ChangeShapes Go.WideShapes Go.ChangeAt Go.RowKit Go.Deep

theorem cell_below {W W' : World} {p : Addr} {v : Value} (hb : Below W.heap.size W W') (h : W.cell? p = some v) : W'.cell? p = some v := (hb.cell (heap_lt_of_cell h)).trans h
theorem below_dN (w : World) (n : Nat) : Below w.heap.size w (w.drewN n) := ⟨rfl, rfl, rfl, Nat.le_refl _, fun _ _ => rfl⟩
theorem contains_false {l : List (List UInt8)} {k : Nat} {y : List UInt8} (hk : k ≤ l.length) (h : ∀ j (h : j < l.length), j < k → ¬ l[j] = y) : (l.take k).contains y = false := by
  rw [Bool.eq_false_iff]
  intro hc
  rw [List.contains_iff_mem] at hc
  obtain ⟨j, hj, e⟩ := List.getElem_of_mem hc
  rw [List.length_take] at hj
  rw [List.getElem_take] at e
  exact h j (by omega) (by omega) e
theorem contains_true {l : List (List UInt8)} {k j : Nat} {y : List UInt8} (hj : j < l.length) (hjk : j < k) (e : l[j] = y) : (l.take k).contains y = true := by
  rw [List.contains_iff_mem]
  rw [← e]
  exact List.mem_iff_getElem.2 ⟨j, by rw [List.length_take]; omega, by rw [List.getElem_take]⟩
set_option maxHeartbeats 4000000 in
theorem rnames_any (v2 v3 v4 v5 v6 : Value) (na : Option Addr) (m nc : Nat) (name : List UInt8) (l : List (List UInt8)) (w : World) (hm : l.length = m) (hg : Rd w na m (txs l)) (hl2 : m < 9223372036854775808) (hname : name.length < 9223372036854775808) (hns : ∀ n ∈ l, n.length < 9223372036854775808) :
    Calls Try.prog 29 #[.agg #[.string ⟨name.toArray⟩, .slice na m nc, v2, v3, v4, v5, v6]] w fun e w' => e = .returned (.bool (nameB name && needsB name l 0)) ∧ Below w.heap.size w w' := by
  obtain ⟨r, hr⟩ : ∃ r, (nameB name && needsB name l 0) = r := ⟨_, rfl⟩
  rw [hr]
  have HN0 := Lib.hid (fun W => rname_any name W hname)
  obtain ⟨q0, hq0⟩ : ∃ q, nameB name = q := ⟨_, rfl⟩
  rw [hq0] at HN0 hr
  have HM := Lib.hid hm
  have HNS := Lib.hid hns
  obtain ⟨W, hW⟩ : ∃ W, w.alloc (.cells #[.string ⟨name.toArray⟩, .slice na m nc, v2, v3, v4, v5, v6] 28) = W := ⟨_, rfl⟩
  have hbx : BoxN W w.heap.size #[.string ⟨name.toArray⟩, .slice na m nc, v2, v3, v4, v5, v6] := by rw [← hW]; exact BoxN.new w _ _
  have hbw : Below w.heap.size w W := by rw [← hW]; exact bAlloc (Below.refl _ _) _
  have HG := Lib.hid (Rd.below hg hbw)
  have HB := Lib.hid hbw
  have o0 : W.cell? ⟨w.heap.size, 0, none⟩ = some (.string ⟨name.toArray⟩) := hbx.cell 0
  have o1 : W.cell? ⟨w.heap.size, 1, none⟩ = some (.slice na m nc) := hbx.cell 1
  have HR := Lib.hid hr
  clear hm hg hns hq0 hbx hbw hr
  go_enter Try.func29, Try.ntmps29
  go_upto_region 1 with fail
  clear hW
  go_wp2_with fail
  refine (HN0.out _).mono ?_; rintro e w' ⟨rfl, rfl⟩
  cases q0 with
  | false =>
    have : false = r := HR.out
    subst this
    go_wp2_with fail
    go_ret
    exact ⟨rfl, HB.out⟩
  | true =>
    have HR2 : Hid (needsB name l 0 = r) := Lib.hid (by have := HR.out; rwa [Bool.true_and] at this)
    clear HR
    go_wp2_with fail
    go_loopw [4] (fun i wr => ∃ k : Nat, i = .int .i64 k ∧ k ≤ m ∧ Hid (needsB name l k = r) ∧ Hid (Below W.heap.size W wr)) (fun i _ => m - (intOf i).toNat)
    case atStart => exact ⟨0, rfl, by omega, HR2, Lib.hid (Below.refl _ _)⟩
    case round =>
      obtain ⟨k, rfl, hk, HQ, HBW⟩ := hrel
      have p0 := cell_below HBW.out o0
      have p1 := cell_below HBW.out o1
      by_cases hlt : k < m
      · have hkl : k < l.length := by rw [HM.out]; exact hlt
        obtain ⟨g, off, hge, -, hc⟩ := HG.out.at_ hlt
        rw [txs_get l k hkl] at hc
        have hcw := cell_below HBW.out hc
        have hq := HQ.out
        rw [needsB_step name l k hkl] at hq
        have HN1 := Lib.hid (fun W => rname_any l[k] W (HNS.out _ (List.getElem_mem hkl)))
        obtain ⟨y, hy⟩ : ∃ y, l[k] = y := ⟨_, rfl⟩
        rw [hy] at hc hcw hq HN1
        obtain ⟨q1, hq1⟩ : ∃ q, nameB y = q := ⟨_, rfl⟩
        rw [hq1] at HN1 hq
        have HQ1 := Lib.hid hq
        have kk0 : (0 : Int) ≤ (k : Int) := by omega
        have kk1 : (k : Int) < (m : Int) := by omega
        subst hge
        clear hq hkl hy hq1 HQ
        go_wp2_with fail
        refine (HN1.out _).mono ?_; rintro e w' ⟨rfl, rfl⟩
        cases q1 with
        | false =>
          have : false = r := HQ1.out
          subst this
          go_wp2_with fail
          go_quiet (fail)
          go_wp2_with fail
          go_ret
          exact ⟨rfl, bTrans HB.out (bTrans HBW.out (below_dN _ _))⟩
        | true =>
          by_cases hyn : y = name
          · have : false = r := by rw [← HQ1.out, hyn]; simp
            subst this
            subst hyn
            go_wp2_with fail
            go_quiet (fail)
            go_wp2_with fail
            go_ret
            exact ⟨rfl, bTrans HB.out (bTrans HBW.out (below_dN _ _))⟩
          · have HQ2 : Hid ((!(l.take k).contains y && needsB name l (k + 1)) = r) := Lib.hid (by have := HQ1.out; rw [show (y != name) = true by simp [hyn]] at this; simpa using this)
            have hyb : (y == name) = false := by simp [hyn]
            clear HQ1
            go_wp2_with fail
            go_quiet (fail)
            have HBU := Lib.hid (bTrans HBW.out (below_dN wr nq))
            obtain ⟨U, hU⟩ : ∃ U, wr.drewN nq = U := ⟨_, rfl⟩
            rw [hU] at HBU ⊢
            clear hU p0 p1 hcw HBW
            go_wp2_with fail
            go_loopw [6] (fun i wq => ∃ j : Nat, i = .int .i64 j ∧ j ≤ k ∧ Hid (∀ a (h : a < l.length), a < j → ¬ l[a] = y) ∧ Hid (Below W.heap.size W wq)) (fun i _ => k - (intOf i).toNat)
            case atStart => exact ⟨0, rfl, by omega, Lib.hid (fun a h h0 => absurd h0 (by omega)), HBU⟩
            case round =>
              obtain ⟨j, rfl, hj, HJ, HBQ⟩ := hrel
              have p1 := cell_below HBQ.out o1
              have hcw := cell_below HBQ.out hc
              by_cases hlj : j < k
              · have hjl : j < l.length := by rw [HM.out]; omega
                obtain ⟨g', off', hge', -, hd⟩ := HG.out.at_ (show j < m by omega)
                cases hge'
                rw [txs_get l j hjl] at hd
                have hdw := cell_below HBQ.out hd
                obtain ⟨z, hz⟩ : ∃ z, l[j] = z := ⟨_, rfl⟩
                rw [hz] at hdw
                have HST : Hid (¬ z = y → ∀ a (h : a < l.length), a < j + 1 → ¬ l[a] = y) := Lib.hid (fun h a ha ha2 => by
                  by_cases e : a = j
                  · subst e; rw [hz]; exact h
                  · exact HJ.out a ha (by omega))
                have HHI : Hid (z = y → false = r) := Lib.hid (fun h => by
                  rw [← HQ2.out, contains_true hjl hlj (hz.trans h)]; rfl)
                have jj0 : (0 : Int) ≤ (j : Int) := by omega
                have jj1 : (j : Int) < (m : Int) := by omega
                have jj2 : (j : Int) < (k : Int) := by omega
                clear hz hd hjl
                by_cases hzy : z = y
                · have := HHI.out hzy
                  subst this
                  subst hzy
                  go_wp2_with fail
                  go_quiet (fail)
                  go_wp2_with fail
                  go_ret
                  exact ⟨rfl, bTrans HB.out (bTrans HBQ.out (below_dN _ _))⟩
                · have HJ2 := Lib.hid (HST.out hzy)
                  have hzb : (z == y) = false := by simp [hzy]
                  go_wp2_with fail
                  go_quiet (fail)
                  go_wp2_with fail
                  go_roundw
                  case rel => exact ⟨j + 1, by go_num, by omega, HJ2, Lib.hid (bTrans HBQ.out (below_dN _ _))⟩
                  case measure => simp [intOf]; omega
              · obtain rfl : j = k := by omega
                have HQ3 : Hid (needsB name l (j + 1) = r) := Lib.hid (by have := HQ2.out; rwa [contains_false (by rw [HM.out]; omega) HJ.out, Bool.not_false, Bool.true_and] at this)
                go_wp2_with fail
                go_roundw
                case rel => exact ⟨j + 1, by go_num, by omega, HQ3, HBQ⟩
                case measure => simp [intOf]; omega
      · have hk2 : k = m := by omega
        subst hk2
        have hn1 : true = r := by
          rw [← HQ.out, needsB_end name l k (by rw [HM.out]; omega)]
        subst hn1
        go_wp2_with fail
        go_ret
        exact ⟨rfl, bTrans HB.out HBW.out⟩
end Go.Proofs.Ytidnojjhchmmgaa
