/- The document's lists and Check: contracts. -/
import Derived.Test.YtidnojjhchmmgaaCgH
import Derived.Test.YtidnojjhchmmgaaCgD
import Derived.Test.YtidnojjhchmmgaaCeJ
namespace Go.Proofs.Ytidnojjhchmmgaa
set_option linter.unusedVariables false
set_option linter.unusedSimpArgs false
open Go.Joins Go.ChangeShapes Go.WideShapes Go.ChangeAt Go.RowKit Go.Deep

set_option maxHeartbeats 4000000 in
set_option maxRecDepth 100000 in
theorem rlists_any (v0 v1 v2 v4 v5 v6 : Value) (sa la : Option Addr) (ms sc n lc : Nat) (sy : List Sym) (li : List Int) (w : World) (hms : sy.length = ms) (hn : li.length = n) (hs : RdS w sa sy) (hl : Rd w la n (i64s li)) (hls : ms < 9223372036854775808) (hln : n < 9223372036854775808) :
    Calls Try.prog 33 #[.agg #[v0, v1, v2, .slice sa ms sc, v4, v5, v6], .slice la n lc] w fun e w' => e = .returned (.bool (li.all (fnB sy))) ∧ Below w.heap.size w w' := by
  obtain ⟨r, hrr⟩ : ∃ r, li.all (fnB sy) = r := ⟨_, rfl⟩
  rw [hrr]
  have HS := Lib.hid hs
  have HL := Lib.hid hl
  have HMS := Lib.hid hms
  have HN := Lib.hid hn
  have HRR := Lib.hid hrr
  obtain ⟨W, hW⟩ : ∃ W, w.alloc (.cells #[v0, v1, v2, .slice sa ms sc, v4, v5, v6] 28) = W := ⟨_, rfl⟩
  obtain ⟨B, hB⟩ : ∃ B, w.heap.size = B := ⟨_, rfl⟩
  have HBX : Hid (BoxN W B #[v0, v1, v2, .slice sa ms sc, v4, v5, v6]) := Lib.hid (by rw [← hW, ← hB]; exact BoxN.new w _ _)
  have HBW : Hid (Below w.heap.size w W) := Lib.hid (by rw [← hW]; exact bAlloc (Below.refl _ _) _)
  have HW := Lib.hid hW
  have HBE := Lib.hid hB
  clear hms hn hs hl hrr hW hB
  go_enter Try.func33, Try.ntmps33
  go_upto_region 1 with fail
  rw [HW.out, HBE.out]
  clear HW
  go_wp2_with fail
  go_loopw [5] (fun i wr => ∃ k : Nat, i = .int .i64 k ∧ k ≤ n ∧ Hid ((li.take k).all (fnB sy) = true) ∧ Hid (Below w.heap.size w wr) ∧ Hid (BoxN wr B #[v0, v1, v2, .slice sa ms sc, v4, v5, v6])) (fun i _ => n - (intOf i).toNat)
  case atStart => exact ⟨0, rfl, by omega, Lib.hid rfl, HBW, HBX⟩
  case round =>
    clear HBX
    obtain ⟨k, rfl, hk, HQ, HB, HBX⟩ := hrel
    by_cases hlt : k < n
    · have hkl : k < li.length := by rw [HN.out]; exact hlt
      obtain ⟨g, off, hge, -, c0⟩ := (HL.out.below HB.out).at_ hlt
      subst hge
      rw [i64s_get li k hkl] at c0
      have HT := Lib.hid (all_take (fnB sy) li k hkl)
      have HMI := Lib.hid (all_miss (fnB sy) li k hkl)
      obtain ⟨x, hx⟩ : ∃ x, li[k] = x := ⟨_, rfl⟩
      rw [hx] at c0 HT HMI
      have hfn : fnB sy x = (decide (0 ≤ x) && (decide (x < sy.length) && (match sy[x.toNat]? with
        | some s => s.defd && decide (s.kind = 1)
        | none => false))) := rfl
      have HFN := Lib.hid hfn
      have kk0 : (0 : Int) ≤ (k : Int) := by omega
      have kk1 : (k : Int) < (n : Int) := by omega
      have o3 : wr.cell? ⟨B, 3, none⟩ = some (.slice sa ms sc) := HBX.out.cell 3
      clear hx hkl hfn
      by_cases h0 : x < 0
      · have h0d : decide (x < 0) = true := decide_eq_true h0
        have hrf : false = r := by rw [← HRR.out, HMI.out (by rw [HFN.out, decide_eq_false (by omega)]; rfl)]
        subst hrf
        go_wp2_with fail
        go_quiet (fail)
        go_wp2_with fail
        go_ret
        exact ⟨rfl, bTrans HB.out (below_dN _ _)⟩
      · have h0d : decide (x < 0) = false := decide_eq_false h0
        obtain ⟨xn, rfl⟩ := Int.eq_ofNat_of_zero_le (show 0 ≤ x by omega)
        by_cases h1 : ms ≤ xn
        · have h1i : (ms : Int) ≤ (xn : Int) := by omega
          have h1d : decide ((ms : Int) ≤ (xn : Int)) = true := decide_eq_true h1i
          have hrf : false = r := by rw [← HRR.out, HMI.out (by rw [HFN.out, HMS.out, decide_eq_false (show ¬ (xn : Int) < (ms : Int) by omega)]; simp)]
          subst hrf
          go_wp2_with fail
          go_quiet (fail)
          go_wp2_with fail
          go_ret
          exact ⟨rfl, bTrans HB.out (below_dN _ _)⟩
        · have h1i : ¬ (ms : Int) ≤ (xn : Int) := by omega
          have h1d : decide ((ms : Int) ≤ (xn : Int)) = false := decide_eq_false h1i
          have hxl : xn < sy.length := by rw [HMS.out]; omega
          obtain ⟨gs, fs, hgs, -, s0, s1, s2, s3, s4, s5, s6, s7⟩ := (HS.out.below HB.out).at_ hxl
          subst hgs
          have hfn2 : fnB sy (xn : Int) = (sy[xn].defd && decide (sy[xn].kind = 1)) := by
            rw [HFN.out, decide_eq_true (show (0 : Int) ≤ (xn : Int) by omega), decide_eq_true (show (xn : Int) < (sy.length : Int) by omega), Int.toNat_natCast, List.getElem?_eq_getElem hxl]
            rfl
          obtain ⟨s, hs⟩ : ∃ s, sy[xn] = s := ⟨_, rfl⟩
          rw [hs] at s0 s1 s2 s3 s4 s5 s6 s7 hfn2
          obtain ⟨nm, vr, pl, sz, kd, bd, sn, df⟩ := s
          simp only [] at s0 s1 s2 s3 s4 s5 s6 s7 hfn2
          have HF2 := Lib.hid hfn2
          have x0 : (0 : Int) ≤ (xn : Int) := by omega
          have x1 : (xn : Int) < (ms : Int) := by omega
          clear hfn2 hs hxl HFN
          go_wp2_with fail
          go_quiet (fail)
          go_upto_region 6 with fail
          have tr0 : ∀ {b o : Nat} {v : Value}, wr.cell? ⟨b, o, none⟩ = some v → (wr.drewN nq).cell? ⟨b, o, none⟩ = some v := fun h => h
          replace c0 := tr0 c0
          replace o3 := tr0 o3
          replace s0 := tr0 s0
          replace s1 := tr0 s1
          replace s2 := tr0 s2
          replace s3 := tr0 s3
          replace s4 := tr0 s4
          replace s5 := tr0 s5
          replace s6 := tr0 s6
          replace s7 := tr0 s7
          clear tr0
          have HB5 := Lib.hid (bTrans HB.out (below_dN wr nq))
          have HX5 := Lib.hid (boxN_below HBX.out (below_dN wr nq))
          obtain ⟨U, hU⟩ : ∃ U, wr.drewN nq = U := ⟨_, rfl⟩
          rw [hU] at HB5 HX5 c0 o3 s0 s1 s2 s3 s4 s5 s6 s7 ⊢
          clear hU
          have HF := Lib.hid (show U.cell? ⟨g, off + k, none⟩ = some (.int .i64 (xn : Int)) ∧ U.cell? ⟨B, 3, none⟩ = some (.slice (some ⟨gs, fs, none⟩) ms sc) ∧ U.cell? ⟨gs, fs + xn * 8, none⟩ = some (.string ⟨nm.toArray⟩) ∧ U.cell? ⟨gs, fs + xn * 8 + 1, none⟩ = some (.string ⟨vr.toArray⟩) ∧ U.cell? ⟨gs, fs + xn * 8 + 2, none⟩ = some (.int .u64 pl) ∧ U.cell? ⟨gs, fs + xn * 8 + 3, none⟩ = some (.int .u64 sz) ∧ U.cell? ⟨gs, fs + xn * 8 + 4, none⟩ = some (.int .i64 kd) ∧ U.cell? ⟨gs, fs + xn * 8 + 5, none⟩ = some (.int .i64 bd) ∧ U.cell? ⟨gs, fs + xn * 8 + 6, none⟩ = some (.int .i64 sn) ∧ U.cell? ⟨gs, fs + xn * 8 + 7, none⟩ = some (.bool df) from ⟨c0, o3, s0, s1, s2, s3, s4, s5, s6, s7⟩)
          go_region_held3 (fun W => W.cell? ⟨g, off + k, none⟩ = some (.int .i64 (xn : Int)) ∧ W.cell? ⟨B, 3, none⟩ = some (.slice (some ⟨gs, fs, none⟩) ms sc) ∧ W.cell? ⟨gs, fs + xn * 8, none⟩ = some (.string ⟨nm.toArray⟩) ∧ W.cell? ⟨gs, fs + xn * 8 + 1, none⟩ = some (.string ⟨vr.toArray⟩) ∧ W.cell? ⟨gs, fs + xn * 8 + 2, none⟩ = some (.int .u64 pl) ∧ W.cell? ⟨gs, fs + xn * 8 + 3, none⟩ = some (.int .u64 sz) ∧ W.cell? ⟨gs, fs + xn * 8 + 4, none⟩ = some (.int .i64 kd) ∧ W.cell? ⟨gs, fs + xn * 8 + 5, none⟩ = some (.int .i64 bd) ∧ W.cell? ⟨gs, fs + xn * 8 + 6, none⟩ = some (.int .i64 sn) ∧ W.cell? ⟨gs, fs + xn * 8 + 7, none⟩ = some (.bool df))
            (first | exact HF.out | go_keep)
            (fail)
          obtain ⟨U2, hU2⟩ : ∃ W, (U.alloc (.cells #[.string ⟨nm.toArray⟩, .string ⟨vr.toArray⟩, .int .u64 pl, .int .u64 sz, .int .i64 kd, .int .i64 bd, .int .i64 sn, .bool df] 35)).drew = W := ⟨_, rfl⟩
          rw [hU2]
          have HB6 : Hid (Below w.heap.size w U2) := Lib.hid (by rw [← hU2]; exact Below.drew (bAlloc HB5.out _))
          have HX6 : Hid (BoxN U2 B #[v0, v1, v2, .slice (some ⟨gs, fs, none⟩) ms sc, v4, v5, v6]) := Lib.hid (by rw [← hU2]; exact boxN_below HX5.out (Below.drew (bAlloc (Below.refl _ _) _)))
          have hbx : BoxN U2 U.heap.size #[.string ⟨nm.toArray⟩, .string ⟨vr.toArray⟩, .int .u64 pl, .int .u64 sz, .int .i64 kd, .int .i64 bd, .int .i64 sn, .bool df] := by rw [← hU2]; exact boxN_drew (BoxN.new _ _ _)
          have y4 : U2.cell? ⟨U.heap.size, 4, none⟩ = some (.int .i64 kd) := hbx.cell 4
          have y7 : U2.cell? ⟨U.heap.size, 7, none⟩ = some (.bool df) := hbx.cell 7
          clear hU2 hbx c0 o3 s0 s1 s2 s3 s4 s5 s6 s7
          cases df with
          | false =>
            have hrf : false = r := by rw [← HRR.out, HMI.out (by rw [HF2.out]; rfl)]
            subst hrf
            go_wp2_with fail
            go_ret
            exact ⟨rfl, HB6.out⟩
          | true =>
            by_cases hk1 : kd = 1
            · subst hk1
              have HQ2 : Hid ((li.take (k + 1)).all (fnB sy) = true) := Lib.hid (by rw [HT.out, HQ.out, HF2.out]; rfl)
              go_wp2_with fail
              go_roundw
              case rel => exact ⟨k + 1, by go_num, by omega, HQ2, HB6, HX6⟩
              case measure => simp [intOf]; omega
            · have hrf : false = r := by rw [← HRR.out, HMI.out (by rw [HF2.out, decide_eq_false hk1]; rfl)]
              subst hrf
              have hk1n : (kd == 1) = false := by simp [hk1]
              go_wp2_with fail
              go_ret
              exact ⟨rfl, HB6.out⟩
    · have hk2 : k = n := by omega
      subst hk2
      have hrt : true = r := by
        have := HQ.out
        rw [List.take_of_length_le (by rw [HN.out]; omega), HRR.out] at this
        exact this.symm
      subst hrt
      go_wp2_with fail
      go_ret
      exact ⟨rfl, HB.out⟩
end Go.Proofs.Ytidnojjhchmmgaa
