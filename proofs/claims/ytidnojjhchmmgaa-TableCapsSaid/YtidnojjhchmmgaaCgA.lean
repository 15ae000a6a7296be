/- The document's Name, At, Room: contracts. -/
import Derived.Test.YtidnojjhchmmgaaCeF
import Derived.Test.YtidnojjhchmmgaaCeD
import Derived.Test.YtidnojjhchmmgaaCeR
namespace Go.Proofs.Ytidnojjhchmmgaa
set_option linter.unusedVariables false
set_option linter.unusedSimpArgs false
open Go.Joins Go.ChangeShapes Go.WideShapes Go.ChangeAt Go.RowKit

set_option maxHeartbeats 4000000 in
theorem rname_any (s : List UInt8) (w : World) (hs : s.length < 9223372036854775808) :
    Calls Try.prog 45 #[.string ⟨s.toArray⟩] w fun e w' => e = .returned (.bool (nameB s)) ∧ w = w' := by
  obtain ⟨r, hr⟩ : ∃ r, nameB s = r := ⟨_, rfl⟩
  have HR := Lib.hid hr
  rw [hr]
  clear hr
  go_enter Try.func45, Try.ntmps45
  go_wp2_with fail
  go_loop [3] (fun i => ∃ k : Nat, k ≤ s.length ∧ i = .int .i64 k ∧ Hid ((s.take k).all (fun c => chB c.toNat) = true)) (fun i => s.length - (intOf i).toNat)
  case atStart => exact ⟨0, by omega, rfl, Lib.hid rfl⟩
  case round =>
    obtain ⟨k, hk, rfl, HP⟩ := hrel
    by_cases h : k < s.length
    · have hst : (s.take (k + 1)).all (fun c => chB c.toNat) = ((s.take k).all (fun c => chB c.toNat) && chB s[k].toNat) := all_take (fun c => chB c.toNat) s k h
      have hmi : chB s[k].toNat = false → s.all (fun c => chB c.toNat) = false := all_miss (fun c => chB c.toNat) s k h
      have hc := UInt8.toNat_lt s[k]
      rw [HP.out, Bool.true_and] at hst
      obtain ⟨c, hcc⟩ : ∃ c, s[k].toNat = c := ⟨_, rfl⟩
      rw [hcc] at hst hmi hc
      have hce : ((ByteArray.mk s.toArray)[k]'h).toNat = c := hcc
      have HST := Lib.hid hst
      have HMI := Lib.hid hmi
      clear hst hmi hcc
      go_wp2_with fail
      all_goals first
        | (have hq : chB c = true := by
            (try simp only [Bool.not_eq_true', Bool.not_eq_false', decide_eq_true_eq, decide_eq_false_iff_not, bne_iff_ne, ne_eq, bne_eq_false_iff_eq, beq_iff_eq, beq_eq_false_iff_ne] at *)
            unfold chB
            simp only [Bool.or_eq_true, Bool.and_eq_true, decide_eq_true_eq, beq_iff_eq]
            omega
           refine ⟨⟨k + 1, by omega, by go_num, Lib.hid (HST.out.trans hq)⟩, ?_⟩
           simp [intOf]
           omega)
        | (have hq : chB c = false := by
            (try simp only [Bool.not_eq_true', Bool.not_eq_false', decide_eq_true_eq, decide_eq_false_iff_not, bne_iff_ne, ne_eq, bne_eq_false_iff_eq, beq_iff_eq, beq_eq_false_iff_ne] at *)
            rw [Bool.eq_false_iff]
            intro hh
            unfold chB at hh
            simp only [Bool.or_eq_true, Bool.and_eq_true, decide_eq_true_eq, beq_iff_eq] at hh
            omega
           go_ret
           exact ⟨ret_bool (by rw [← HR.out]; unfold nameB; rw [HMI.out hq]; rfl), rfl⟩)
    · obtain rfl : k = s.length := by omega
      have ha := HP.out
      rw [List.take_length] at ha
      have HRR : Hid (r = (decide (1 ≤ s.length) && decide (s.length ≤ 30))) := Lib.hid (by rw [← HR.out]; unfold nameB; rw [ha, Bool.true_and])
      clear ha HP HR
      obtain ⟨n, hn⟩ : ∃ n, s.length = n := ⟨_, rfl⟩
      go_wp2_with fail
      all_goals (go_ret; exact ⟨ret_bool (by rw [HRR.out, hn, Bool.eq_iff_iff]; simp; try omega), rfl⟩)
theorem boxN_alloc {W : World} {B : Nat} {cs : Array Value} (h : BoxN W B cs) (o : Obj) : BoxN (W.alloc o) B cs := h.below (bAlloc (Below.refl _ _) o) h.lt
theorem boxN_below {W W' : World} {B : Nat} {cs : Array Value} (h : BoxN W B cs) (hb : Below W.heap.size W W') : BoxN W' B cs := h.below hb h.lt
set_option maxHeartbeats 2000000 in
theorem rat_any (v0 v1 v3 v4 v5 v6 : Value) (ga : Option Addr) (m gc : Nat) (l : List Seg) (x n : Int) (w : World) (hm : l.length = m) (hg : RdG w ga l) (hl : m < 9223372036854775808) (hb : ∀ s ∈ l, u64B s.place ∧ u64B s.size) (hx : u64B x) (hn : u64B n) :
    Calls Try.prog 21 #[.agg #[v0, v1, .slice ga m gc, v3, v4, v5, v6], .int .u64 x, .int .u64 n] w fun e w' => e = .returned (.int .i64 (atF l x n)) ∧ Below w.heap.size w w' := by
  obtain ⟨r, hr⟩ : ∃ r, atF l x n = r := ⟨_, rfl⟩
  rw [hr]
  have HR := Lib.hid hr
  have HM := Lib.hid hm
  have HG := Lib.hid hg
  have HBD := Lib.hid hb
  obtain ⟨x0, x1⟩ := hx
  obtain ⟨n0, n1⟩ := hn
  clear hr hm hg hb
  go_enter Try.func21, Try.ntmps21
  go_wp2_with fail
  go_loopw [7] (fun i wr => ∃ k : Nat, i = .int .i64 k ∧ k ≤ m ∧ Hid (∀ j (h : j < l.length), j < k → hasB l[j] x n = false) ∧ Hid (Below w.heap.size w wr) ∧ Hid (BoxN wr w.heap.size #[v0, v1, .slice ga m gc, v3, v4, v5, v6])) (fun i _ => m - (intOf i).toNat)
  case atStart => exact ⟨0, rfl, by omega, Lib.hid (fun j h h0 => absurd h0 (by omega)), Lib.hid (bAlloc (Below.refl _ _) _), Lib.hid (BoxN.new w _ _)⟩
  case round =>
    obtain ⟨k, rfl, hk, HQ, HWB, HBX⟩ := hrel
    have o2 : wr.cell? ⟨w.heap.size, 2, none⟩ = some (.slice ga m gc) := HBX.out.cell 2
    by_cases hlt : k < m
    · have hkl : k < l.length := by rw [HM.out]; exact hlt
      obtain ⟨g, off, hge, -, hc⟩ := (HG.out.below HWB.out).at_ hkl
      subst hge
      have hbd := HBD.out _ (List.getElem_mem hkl)
      obtain ⟨s, hs⟩ : ∃ s, l[k] = s := ⟨_, rfl⟩
      have hst : hasB s x n = false → ∀ j (h : j < l.length), j < k + 1 → hasB l[j] x n = false := fun h j hj hj2 => by
        by_cases e : j = k
        · subst e; rw [hs]; exact h
        · exact HQ.out j hj (by omega)
      have hhit : hasB s x n = true → (k : Int) = r := fun h => by
        rw [← HR.out]
        exact (firstI_some hkl (by show hasB l[k] x n = true; rw [hs]; exact h) (fun j hj => HQ.out j (by omega) hj)).symm
      rw [hs] at hc hbd
      obtain ⟨c0, c1, c2, c3⟩ := hc
      have HST := Lib.hid hst
      have HHI := Lib.hid hhit
      obtain ⟨⟨p0, p1⟩, ⟨z0, z1⟩⟩ := hbd
      have hhb : hasB s x n = (decide (s.place ≤ x) && (decide (x - s.place ≤ s.size) && decide (n ≤ s.size - (x - s.place)))) := rfl
      obtain ⟨q, hq⟩ : ∃ q, hasB s x n = q := ⟨_, rfl⟩
      rw [hq] at HST HHI hhb
      obtain ⟨e0, he0⟩ : ∃ e, s.place = e := ⟨_, rfl⟩
      obtain ⟨e1, he1⟩ : ∃ e, s.size = e := ⟨_, rfl⟩
      obtain ⟨e2, he2⟩ : ∃ e, s.flags = e := ⟨_, rfl⟩
      obtain ⟨e3, he3⟩ : ∃ e, s.ba = e := ⟨_, rfl⟩
      obtain ⟨e4, he4⟩ : ∃ e, s.bytes.length = e := ⟨_, rfl⟩
      obtain ⟨e5, he5⟩ : ∃ e, s.bc = e := ⟨_, rfl⟩
      rw [he0] at c0 p0 p1 hhb
      rw [he1] at c1 z0 z1 hhb
      rw [he2] at c2
      rw [he3, he4, he5] at c3
      have kk0 : (0 : Int) ≤ (k : Int) := by omega
      have kk1 : (k : Int) < (m : Int) := by omega
      have HHB := Lib.hid hhb
      clear hst hhit hkl hs hq he0 he1 he2 he3 he4 he5 hhb
      by_cases c1' : e0 ≤ x
      · have w1 : IntKind.u64.wrap (x - e0) = x - e0 := by rw [IntKind.wrap_u64]; omega
        have c1n : ¬ x < e0 := by omega
        by_cases c2' : x - e0 ≤ e1
        · have w2 : IntKind.u64.wrap (e1 - (x - e0)) = e1 - (x - e0) := by rw [IntKind.wrap_u64]; omega
          by_cases c3' : n ≤ e1 - (x - e0)
          · have hqt : q = true := by rw [HHB.out, decide_eq_true c1', decide_eq_true c2', decide_eq_true c3']; rfl
            have hkr := HHI.out hqt
            subst hkr
            go_wp2_with fail
            go_ret
            exact ⟨rfl, bAlloc HWB.out _⟩
          · have hqf : q = false := by rw [HHB.out, decide_eq_false c3']; simp
            have HN1 := Lib.hid (HST.out hqf)
            go_wp2_with fail
            go_roundw
            case rel => exact ⟨k + 1, by go_num, by omega, HN1, Lib.hid (bAlloc HWB.out _), Lib.hid (boxN_alloc HBX.out _)⟩
            case measure => simp [intOf]; omega
        · have hqf : q = false := by rw [HHB.out, decide_eq_false c2']; simp
          have HN1 := Lib.hid (HST.out hqf)
          go_wp2_with fail
          go_roundw
          case rel => exact ⟨k + 1, by go_num, by omega, HN1, Lib.hid (bAlloc HWB.out _), Lib.hid (boxN_alloc HBX.out _)⟩
          case measure => simp [intOf]; omega
      · have c1n : x < e0 := by omega
        have hqf : q = false := by rw [HHB.out, decide_eq_false c1']; rfl
        have HN1 := Lib.hid (HST.out hqf)
        go_wp2_with fail
        go_roundw
        case rel => exact ⟨k + 1, by go_num, by omega, HN1, Lib.hid (bAlloc HWB.out _), Lib.hid (boxN_alloc HBX.out _)⟩
        case measure => simp [intOf]; omega
    · have hk2 : k = m := by omega
      subst hk2
      have hn1 : (-1 : Int) = r := by
        rw [← HR.out]
        exact (firstI_none (fun j h => HQ.out j h (by rw [HM.out] at h; exact h))).symm
      subst hn1
      go_wp2_with fail
      go_ret
      exact ⟨rfl, HWB.out⟩
set_option maxHeartbeats 1000000 in
theorem rroom_any (v0 v1 v2 v4 v5 v6 : Value) (sa : Option Addr) (m sc : Nat) (l : List Sym) (n : Nat) (w : World) (hm : l.length = m) (hg : RdS w sa l) (hl : m < 9223372036854775808) (hn : n < m) :
    Calls Try.prog 46 #[.agg #[v0, v1, v2, .slice sa m sc, v4, v5, v6], .int .i64 (n : Int)] w fun e w' => e = .returned (.int .u64 (roomZ l (n : Int))) ∧ Below w.heap.size w w' := by
  have hkl : n < l.length := by rw [hm]; omega
  obtain ⟨g, off, hge, -, c0, c1, c2, c3, c4, c5, c6, c7⟩ := (hg.below (bAlloc (Below.refl _ _) (.cells #[v0, v1, v2, .slice sa m sc, v4, v5, v6] 28))).at_ hkl
  subst hge
  have hr : roomZ l (n : Int) = if l[n].kind = 1 then 64 else 32 := by
    unfold roomZ kindAt
    rw [Int.toNat_natCast, List.getElem?_eq_getElem hkl]
  obtain ⟨e4, he4⟩ : ∃ e, l[n].kind = e := ⟨_, rfl⟩
  rw [he4] at c4 hr
  obtain ⟨r, hr2⟩ : ∃ r, roomZ l (n : Int) = r := ⟨_, rfl⟩
  rw [hr2] at hr ⊢
  have kk0 : (0 : Int) ≤ (n : Int) := by omega
  have kk1 : (n : Int) < (m : Int) := by omega
  clear hr2 hm hg he4 c0 c1 c2 c3 c5 c6 c7 hkl
  by_cases h1 : e4 = 1
  · rw [if_pos h1] at hr
    subst hr
    subst h1
    go_enter Try.func46, Try.ntmps46
    go_wp2_with fail
    go_ret
    exact ⟨rfl, bAlloc (Below.refl _ _) _⟩
  · rw [if_neg h1] at hr
    subst hr
    go_enter Try.func46, Try.ntmps46
    go_wp2_with fail
    go_ret
    exact ⟨rfl, bAlloc (Below.refl _ _) _⟩
end Go.Proofs.Ytidnojjhchmmgaa
