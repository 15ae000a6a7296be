/- The document's Same of machines: contract. -/
import Derived.Test.YtinflemamegdfaaMcI
import Derived.BigQuiet
namespace Go.Proofs.Ytinflemamegdfaa
set_option linter.unusedVariables false
set_option linter.unusedSimpArgs false
open Go.Joins Go.ChangeShapes Go.WideShapes Go.ChangeAt Go.RowKit Go.Deep

theorem regs_range {W : World} {Y : Nat} {rs : List Cp} (h : BoxN W Y (capsV rs).toArray) (i : Nat) (hi : i < rs.length) : W.rangeAt Y (i * 6) (capC rs[i]) := by
  have e : rs = rs.take i ++ (rs[i] :: rs.drop (i + 1)) := by rw [← List.drop_eq_getElem_cons hi, List.take_append_drop]
  have e2 : capsV rs = capsV (rs.take i) ++ (capC rs[i] ++ capsV (rs.drop (i + 1))) := by
    conv => lhs; rw [e]
    rw [capsV_app, capsV_cons]
  rw [e2] at h
  have := range_mid h
  rwa [capsV_len, List.length_take, Nat.min_eq_left (by omega), Nat.mul_comm] at this
set_option maxRecDepth 100000 in
set_option maxHeartbeats 4000000 in
theorem mcsame_any (W : World) (B R : Nat) (pc : Cp) (rs : List Cp) (hm : McAt W B R pc rs) :
    Calls Try.prog 20 #[.agg (capC pc).toArray, .agg (capsV rs).toArray, .pointer (some ⟨B, 0, none⟩)] W fun e W' => e = .returned (.bool true) ∧ Below W.heap.size W W' := by
  have HM := Lib.hid hm
  have HL := Lib.hid hm.len
  obtain ⟨RA, hRA⟩ : ∃ RA, (capsV rs).toArray = RA := ⟨_, rfl⟩
  have HRA := Lib.hid hRA
  rw [hRA]
  obtain ⟨cb, ct, ca, cp, cy, cg⟩ := pc
  rw [show (capC ⟨cb, ct, ca, cp, cy, cg⟩).toArray = #[.int .u64 cb, .int .u64 ct, .int .u64 ca, .int .i64 cp, .int .i64 cy, .bool cg] from rfl]
  clear hm hRA
  go_enter Try.func20, Try.ntmps20
  go_upto_region 1 with fail
  obtain ⟨W1, hW1⟩ : ∃ W1, (W.alloc (.cells #[.int .u64 cb, .int .u64 ct, .int .u64 ca, .int .i64 cp, .int .i64 cy, .bool cg] 24)).alloc (.cells RA 39) = W1 := ⟨_, rfl⟩
  (try rw [hW1])
  have hb1 : Below W.heap.size W W1 := by rw [← hW1]; exact bAlloc (bAlloc (Below.refl _ _) _) _
  have x1 : BoxN W1 W.heap.size #[.int .u64 cb, .int .u64 ct, .int .u64 ca, .int .i64 cp, .int .i64 cy, .bool cg] := by rw [← hW1]; exact boxN_below (BoxN.new W _ _) (bAlloc (Below.refl _ _) _)
  have y1 : BoxN W1 (W.heap.size + 1) RA := by
    rw [← hW1, ← size_alloc W (.cells #[.int .u64 cb, .int .u64 ct, .int .u64 ca, .int .i64 cp, .int .i64 cy, .bool cg] 24)]
    exact BoxN.new _ _ _
  obtain ⟨Y, hY⟩ : ∃ Y, W.heap.size + 1 = Y := ⟨_, rfl⟩
  rw [hY] at y1
  (try rw [hY])
  have B1 := Lib.hid hb1
  have Y1 := Lib.hid y1
  have M1 := Lib.hid (HM.out.below hb1)
  obtain ⟨⟨a0, a1, a2, a3, a4, a5⟩, -⟩ := boxN6 x1
  have hpr := range6 M1.out.pcAt
  simp only [Nat.zero_add] at hpr
  obtain ⟨p0, p1, p2, p3, p4, p5⟩ := hpr
  clear hW1 hb1 x1 y1 hY HM
  go_quiet (fail)
  obtain ⟨W2, hW2⟩ : ∃ W2, W1.drewN nq = W2 := ⟨_, rfl⟩
  rw [hW2]
  have hb2 : Below W1.heap.size W1 W2 := by rw [← hW2]; exact below_drewN _ _
  have Y2 := Lib.hid (boxN_below Y1.out hb2)
  have M2 := Lib.hid (M1.out.below hb2)
  have B2 := Lib.hid (B1.out.trans (hb2.mono B1.out.size))
  clear hW2 hb2 a0 a1 a2 a3 a4 a5 p0 p1 p2 p3 p4 p5 Y1 M1 B1
  go_wp2_with fail
  go_loopw [7] (fun i wr => ∃ k : Nat, i = .int .i64 (k : Int) ∧ 1 ≤ k ∧ k ≤ 32 ∧ Hid (BoxN wr Y RA) ∧ Hid (McAt wr B R ⟨cb, ct, ca, cp, cy, cg⟩ rs) ∧ Hid (Below W.heap.size W wr)) (fun i _ => 32 - (intOf i).toNat)
  case atStart => exact ⟨1, rfl, by omega, by omega, Y2, M2, B2⟩
  case round =>
    obtain ⟨k, rfl, hk1, hk, HY, HM, HB⟩ := hrel
    clear Y2 M2 B2
    by_cases hlt : k < 32
    · have hkr : k < rs.length := by rw [HL.out]; exact hlt
      have h1 := regs_range (by rw [HRA.out]; exact HY.out : BoxN wr Y (capsV rs).toArray) k hkr
      have h2 := HM.out.reg k hkr
      obtain ⟨c, hc⟩ : ∃ c, rs[k] = c := ⟨_, rfl⟩
      rw [hc] at h1 h2
      obtain ⟨a0, a1, a2, a3, a4, a5⟩ := range6 h1
      obtain ⟨p0, p1, p2, p3, p4, p5⟩ := range6 h2
      obtain ⟨eb, et, ea, ep, ey, eg⟩ := c
      simp only [] at a0 a1 a2 a3 a4 a5 p0 p1 p2 p3 p4 p5
      have kk0 : (0 : Int) ≤ (k : Int) := by omega
      have kk1 : (k : Int) < 32 := by omega
      have hd1 : decide ((k : Int) < 32) = true := decide_eq_true kk1
      have HLT := Lib.hid hlt
      clear h1 h2 hc hkr hk hlt
      go_wp2_with fail
      go_quiet (fail)
      obtain ⟨W3, hW3⟩ : ∃ W3, wr.drewN nq = W3 := ⟨_, rfl⟩
      rw [hW3]
      have hb3 : Below wr.heap.size wr W3 := by rw [← hW3]; exact below_drewN _ _
      have Y3 := Lib.hid (boxN_below HY.out hb3)
      have M3 := Lib.hid (HM.out.below hb3)
      have B3 := Lib.hid (HB.out.trans (hb3.mono HB.out.size))
      clear hW3 hb3 a0 a1 a2 a3 a4 a5 p0 p1 p2 p3 p4 p5 HY HM HB
      go_wp2_with fail
      have hlt := HLT.out
      go_roundw
      case rel => exact ⟨k + 1, by go_num, by omega, by omega, Y3, M3, B3⟩
      case measure => simp [intOf]; omega
    · obtain rfl : k = 32 := by omega
      have hd1 : decide ((32 : Int) < 32) = false := by decide
      clear hlt hk
      go_wp2_with fail
      go_ret
      exact ⟨rfl, HB.out⟩
end Go.Proofs.Ytinflemamegdfaa
