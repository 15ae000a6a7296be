/- The document's Segments: contract. -/
import Derived.Test.YtidnojjhchmmgaaCgB
import Derived.Test.YtidnojjhchmmgaaCeE
namespace Go.Proofs.Ytidnojjhchmmgaa
set_option linter.unusedVariables false
set_option linter.unusedSimpArgs false
open Go.Joins Go.ChangeShapes Go.WideShapes Go.ChangeAt Go.RowKit Go.Deep

/-- what stood ahead of the k-th, and where the next page begins -/
def Ahead (l : List Seg) (k : Nat) (fz : Int) : Prop := (k = 0 ∧ fz = 0) ∨ ∃ (k1 : Nat) (h : k1 < l.length), k = k1 + 1 ∧ fz = upP (l[k1].place + l[k1].size) ∧ 0 ≤ l[k1].place ∧ 1 ≤ l[k1].size ∧ l[k1].place + l[k1].size ≤ 16384
set_option maxHeartbeats 8000000 in
set_option maxRecDepth 100000 in
theorem rsegs_any (ga : Option Addr) (m gc : Nat) (l : List Seg) (w : World) (hm : l.length = m) (hg : RdG w ga l) (hl : m < 9223372036854775808) (hb : ∀ s ∈ l, u64B s.place ∧ u64B s.size ∧ s.bytes.length < 9223372036854775808) :
    Calls Try.prog 30 #[.slice ga m gc] w fun e w' => e = .returned (.bool (segsB 0 l)) ∧ Below w.heap.size w w' := by
  obtain ⟨r, hr⟩ : ∃ r, segsB 0 l = r := ⟨_, rfl⟩
  rw [hr]
  have HR := Lib.hid hr
  have HM := Lib.hid hm
  have HG := Lib.hid hg
  have HBD := Lib.hid hb
  clear hr hm hg hb
  go_enter Try.func30, Try.ntmps30
  go_wp2_with fail
  go_loopw [3] (fun i wr => ∃ (k : Nat) (fz : Int), i = .int .i64 k ∧ k ≤ m ∧ Hid (Ahead l k fz) ∧ Hid (segsB fz (l.drop k) = r) ∧ Hid (Below w.heap.size w wr)) (fun i _ => m - (intOf i).toNat)
  case atStart => exact ⟨0, 0, rfl, by omega, Lib.hid (Or.inl ⟨rfl, rfl⟩), Lib.hid HR.out, Lib.hid (Below.refl _ _)⟩
  case round =>
    obtain ⟨k, fz, rfl, hk, HAH, HQ, HB⟩ := hrel
    by_cases hlt : k < m
    · have hkl : k < l.length := by rw [HM.out]; exact hlt
      obtain ⟨g, off, hge, -, hc⟩ := (HG.out.below HB.out).at_ hkl
      subst hge
      have hbd := HBD.out _ (List.getElem_mem hkl)
      have hq := HQ.out
      rw [List.drop_eq_getElem_cons hkl] at hq
      have HAH2 : Hid (0 ≤ l[k].place → 1 ≤ l[k].size → l[k].place + l[k].size ≤ 16384 → Ahead l (k + 1) (upP (l[k].place + l[k].size))) := Lib.hid (fun h1 h2 h3 => Or.inr ⟨k, hkl, rfl, rfl, h1, h2, h3⟩)
      obtain ⟨s, hs⟩ : ∃ s, l[k] = s := ⟨_, rfl⟩
      rw [hs] at hc hbd hq HAH2
      have hq : (segB fz s && segsB (upP (s.place + s.size)) (l.drop (k + 1))) = r := hq
      obtain ⟨c0, c1, c2, c3⟩ := hc
      obtain ⟨⟨p0, p1⟩, ⟨z0, z1⟩, b1⟩ := hbd
      obtain ⟨e0, he0⟩ : ∃ e, s.place = e := ⟨_, rfl⟩
      obtain ⟨e1, he1⟩ : ∃ e, s.size = e := ⟨_, rfl⟩
      obtain ⟨e2, he2⟩ : ∃ e, s.flags = e := ⟨_, rfl⟩
      obtain ⟨e3, he3⟩ : ∃ e, s.ba = e := ⟨_, rfl⟩
      obtain ⟨e4, he4⟩ : ∃ e, s.bytes.length = e := ⟨_, rfl⟩
      obtain ⟨e5, he5⟩ : ∃ e, s.bc = e := ⟨_, rfl⟩
      rw [he0] at c0 p0 p1 hq HAH2
      rw [he1] at c1 z0 z1 hq HAH2
      rw [he2] at c2
      rw [he3, he4, he5] at c3
      rw [he4] at b1
      have hsb : segB fz s = (decide (e0 % 256 = 0) && (decide (fz ≤ e0) && (decide (e0 ≤ 16384) && (decide (1 ≤ e1) && (decide (e1 ≤ 2048) && (decide (e0 + e1 ≤ 16384) && (decide ((e4 : Int) ≤ e1) && (decide (1 ≤ e2) && decide (e2 ≤ 5)))))))) ) := by unfold segB; rw [he0, he1, he2, he4]
      rw [hsb] at hq
      have HQ2 := Lib.hid hq
      have kk0 : (0 : Int) ≤ (k : Int) := by omega
      have kk1 : (k : Int) < (m : Int) := by omega
      obtain ⟨W4, hW4⟩ : ∃ W4, wr.alloc (.cells #[.int .u64 e0, .int .u64 e1, .int .i64 e2, .slice e3 e4 e5] 61) = W4 := ⟨_, rfl⟩
      have hbx : BoxN W4 wr.heap.size #[.int .u64 e0, .int .u64 e1, .int .i64 e2, .slice e3 e4 e5] := by rw [← hW4]; exact BoxN.new wr _ _
      have hb4 : Below w.heap.size w W4 := by rw [← hW4]; exact bAlloc HB.out _
      have HB4 := Lib.hid hb4
      have q0 := hbx.cell 0
      have q1 := hbx.cell 1
      have q2 := hbx.cell 2
      have q3 := hbx.cell 3
      simp only [List.getElem?_toArray, List.getElem?_cons_zero, List.getElem?_cons_succ] at q0 q1 q2 q3
      have HBX := Lib.hid hbx
      clear hbx hb4 hq hsb hs he0 he1 he2 he3 he4 he5 HQ
      by_cases hC : e0 % 256 = 0 ∧ 1 ≤ e1 ∧ e1 ≤ 2048 ∧ e0 ≤ 16384 ∧ e0 + e1 ≤ 16384 ∧ (e4 : Int) ≤ e1 ∧ 1 ≤ e2 ∧ e2 ≤ 5
      · obtain ⟨h1, h2, h3, h4, h5, h6, h7, h8⟩ := hC
        have hq2 : ((decide (fz ≤ e0) && segsB (upP (e0 + e1)) (l.drop (k + 1))) = r) := by
          have := HQ2.out
          rw [decide_eq_true h1, decide_eq_true h2, decide_eq_true h3, decide_eq_true h4, decide_eq_true h5, decide_eq_true h6, decide_eq_true h7, decide_eq_true h8] at this
          simpa using this
        have HQ3 := Lib.hid hq2
        have HAH3 := Lib.hid (HAH2.out p0 h2 h5)
        have n2 : ¬ e1 = 0 := by omega
        have n3 : ¬ 2048 < e1 := by omega
        have n4 : ¬ 16384 < e0 := by omega
        have w5 : IntKind.u64.wrap (e0 + e1) = e0 + e1 := by rw [IntKind.wrap_u64]; omega
        have n5 : ¬ 16384 < e0 + e1 := by omega
        have w6 : IntKind.i64.wrap e1 = e1 := IntWalk.i64_in _ (by omega)
        have n6 : ¬ e1 < (e4 : Int) := by omega
        have n7 : ¬ e2 < 1 := by omega
        have n8 : ¬ 5 < e2 := by omega
        have n9 : ¬ e2 = 0 := by omega
        rcases HAH.out with ⟨hk0, rfl⟩ | ⟨k1, hk1l, hk1, hfz, a0, a1, a2⟩
        · have HQ4 : Hid (segsB (upP (e0 + e1)) (l.drop (k + 1)) = r) := Lib.hid (by have := HQ3.out; rwa [decide_eq_true p0, Bool.true_and] at this)
          have n0 : ¬ (0 : Int) < (k : Int) := by omega
          clear hkl hk0
          go_wp2_with fail
          go_roundw
          case rel => exact ⟨k + 1, _, by go_num, by omega, HAH3, HQ4, HB4⟩
          case measure => simp [intOf]; omega
        · have n0 : (0 : Int) < (k : Int) := by omega
          have nk : IntKind.i64.wrap ((k : Int) - 1) = (k1 : Int) := by rw [IntKind.wrap_i64]; omega
          have nk0 : (0 : Int) ≤ (k1 : Int) := by omega
          have nk1 : (k1 : Int) < (m : Int) := by omega
          obtain ⟨g', off', hge', -, d0, d1, d2, d3⟩ := (HG.out.below HB4.out).at_ hk1l
          cases hge'
          obtain ⟨y0, hy0⟩ : ∃ e, l[k1].place = e := ⟨_, rfl⟩
          obtain ⟨y1, hy1⟩ : ∃ e, l[k1].size = e := ⟨_, rfl⟩
          rw [hy0] at d0 hfz a0 a2
          rw [hy1] at d1 hfz a1 a2
          have wy : IntKind.u64.wrap (y0 + y1) = y0 + y1 := by rw [IntKind.wrap_u64]; omega
          have HFZ := Lib.hid hfz
          have hfl : 0 ≤ fz ∧ fz < 100000 := by rw [hfz]; unfold upP; omega
          obtain ⟨f0, f1⟩ := hfl
          clear hkl hy0 hy1 d2 d3 hk1l hfz hk1
          go_wp2_with fail
          clear hW4 c0 c1 c2 c3
          go_quiet (fail)
          have HB5 := Lib.hid (bTrans HB4.out (below_dN W4 nq))
          have HX5 := Lib.hid (boxN_below HBX.out (below_dN W4 nq))
          obtain ⟨U, hU⟩ : ∃ U, W4.drewN nq = U := ⟨_, rfl⟩
          rw [hU] at HB5 HX5 ⊢
          have q0 := HX5.out.cell 0
          simp only [List.getElem?_toArray, List.getElem?_cons_zero] at q0
          clear hU q1 q2 q3 d0 d1
          go_wp2_with fail
          go_loop [5] (fun i => ∃ en : Int, i = .int .u64 en ∧ 0 ≤ en ∧ en ≤ fz ∧ Hid (upP en = fz)) (fun i => (fz - intOf i).toNat)
          case atStart => exact ⟨y0 + y1, rfl, by omega, by rw [HFZ.out]; unfold upP; omega, Lib.hid HFZ.out.symm⟩
          case round =>
            obtain ⟨en, rfl, en0, en1, HE⟩ := hrel
            by_cases hm0 : en % 256 = 0
            · have hef : en = fz := by have := HE.out; unfold upP at this; omega
              subst hef
              by_cases hle : e0 < en
              · have hrf : false = r := by rw [← HQ3.out, decide_eq_false (by omega)]; rfl
                subst hrf
                go_wp2_with fail
                go_ret
                exact ⟨rfl, HB5.out⟩
              · have HQ4 : Hid (segsB (upP (e0 + e1)) (l.drop (k + 1)) = r) := Lib.hid (by have := HQ3.out; rwa [decide_eq_true (by omega), Bool.true_and] at this)
                go_wp2_with fail
                go_roundw
                case rel => exact ⟨k + 1, _, by go_num, by omega, HAH3, HQ4, HB5⟩
                case measure => simp [intOf]; omega
            · have hen : en + 1 ≤ fz := by have := HE.out; unfold upP at this; omega
              have hup : upP (en + 1) = fz := by rw [← HE.out]; unfold upP; omega
              have we : IntKind.u64.wrap (en + 1) = en + 1 := by rw [IntKind.wrap_u64]; omega
              have HUP := Lib.hid hup
              clear hup
              go_wp2_with fail
              go_round
              case rel => exact ⟨en + 1, rfl, by omega, hen, HUP⟩
              case measure => simp [intOf]; omega
      · have hrf : false = r := by
          rw [← HQ2.out]
          symm
          rw [Bool.and_eq_false_iff]
          left
          rw [Bool.eq_false_iff]
          intro hh
          simp only [Bool.and_eq_true, decide_eq_true_eq] at hh
          exact hC ⟨hh.1, hh.2.2.2.1, hh.2.2.2.2.1, hh.2.2.1, hh.2.2.2.2.2.1, hh.2.2.2.2.2.2.1, hh.2.2.2.2.2.2.2.1, hh.2.2.2.2.2.2.2.2⟩
        subst hrf
        clear hkl
        go_wp2_with fail
        all_goals first
          | (go_ret; exact ⟨rfl, HB4.out⟩)
          | (exfalso
             (try simp only [bne_iff_ne, ne_eq, bne_eq_false_iff_eq, Bool.not_eq_true', Bool.not_eq_false', beq_iff_eq, beq_eq_false_iff_ne] at *)
             omega)
    · have hk2 : k = m := by omega
      subst hk2
      have hn1 : true = r := by
        rw [← HQ.out, List.drop_eq_nil_of_le (by rw [HM.out]; omega)]
        rfl
      subst hn1
      go_wp2_with fail
      go_ret
      exact ⟨rfl, HB.out⟩
end Go.Proofs.Ytidnojjhchmmgaa
