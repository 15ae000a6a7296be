/- The program's memory: Unmap: contract. -/
import Derived.Test.YteaididdamihlaaTmJ
namespace Go.Proofs.Yteaididdamihlaa
set_option linter.unusedVariables false
set_option linter.unusedSimpArgs false
open Go.Joins Go.ChangeShapes Go.WideShapes Go.ChangeAt Go.RowKit Go.Deep

set_option maxRecDepth 100000 in
set_option maxHeartbeats 1000000 in
theorem unmap_any (W : World) (M : Nat) (F : Nat → Prop) (m : Mm) (h : MemAt W M F m) (f n : Int) (hf0 : 0 ≤ f) (hf1 : f < 18446744073709551616) (hn0 : -9223372036854775808 ≤ n) (hn1 : n < 9223372036854775808) :
    Calls Try.prog 44 #[.pointer (some ⟨M, 0, none⟩), .int .u64 f, .int .i64 n] W fun e W' => e = .returned (.int .i64 (unmapF m f n).2) ∧ MemAt W' M F (unmapF m f n).1 ∧ KP W.heap.size F W W' := by
  obtain ⟨B, D, pb, h⟩ := h
  have HA := Lib.hid (areP_any f n W hf0 hf1 hn0 hn1)
  clear hn0 hn1
  cases hbad : badP f n with
  | true =>
    have hp : unmapF m f n = (m, 1) := by unfold unmapF; rw [if_pos hbad]
    rw [hp]
    rw [hbad] at HA
    have HM0 := Lib.hid h.at_
    clear hp hbad h
    go_enter Try.func44, Try.ntmps44
    go_wp2_with fail
    refine HA.out.mono ?_; rintro e W0 ⟨rfl, rfl⟩
    go_wp2_with fail
    go_ret
    exact ⟨rfl, HM0.out, KP.refl _ _ _⟩
  | false =>
    rw [hbad] at HA
    obtain ⟨g1, g2, g3, g4⟩ : 1 ≤ n ∧ n ≤ 65536 ∧ f < 65536 ∧ f + n ≤ 65536 := by
      unfold badP at hbad
      simp only [Bool.or_eq_false_iff, decide_eq_false_iff_not] at hbad
      omega
    obtain ⟨f, rfl⟩ := Int.eq_ofNat_of_zero_le hf0
    obtain ⟨n, rfl⟩ := Int.eq_ofNat_of_zero_le (show 0 ≤ n by omega)
    have hfn : f + n ≤ 65536 := by omega
    have hn : 0 < n := by omega
    clear hf0 hf1 g1 g2 g3 g4
    have HMP := Lib.hid (mapped_any W M B D pb F m h f n hfn)
    have hall := manyP_all m f n
    obtain ⟨mp, hmp⟩ : ∃ z, manyP m f n = z := ⟨_, rfl⟩
    rw [hmp] at HMP hall
    cases han : allIn m f n with
    | false =>
      have hp : unmapF m f n = (m, 30) := by unfold unmapF; rw [if_neg (by rw [hbad]; decide), Int.toNat_natCast, Int.toNat_natCast, if_neg (by rw [han]; decide)]
      rw [hp]
      rw [han] at hall
      have hmp0 : (mp : Int) < (n : Int) := by have := of_decide_eq_true hall; omega
      have HM0 := Lib.hid h.at_
      clear hp hbad h hall han hmp
      go_enter Try.func44, Try.ntmps44
      go_wp2_with fail
      refine HA.out.mono ?_; rintro e W0 ⟨rfl, rfl⟩
      go_wp2_with fail
      refine HMP.out.mono ?_; rintro e W0 ⟨rfl, rfl⟩
      go_wp2_with fail
      go_ret
      exact ⟨rfl, HM0.out, KP.refl _ _ _⟩
    | true =>
      have hp : unmapF m f n = (delN m f n, 0) := by unfold unmapF; rw [if_neg (by rw [hbad]; decide), Int.toNat_natCast, Int.toNat_natCast, if_pos han]
      rw [hp]
      rw [han] at hall
      have hmp0 : ¬ (mp : Int) < (n : Int) := by have := of_decide_eq_false hall; omega
      have w1 : IntKind.u64.wrap (n : Int) = (n : Int) := by rw [IntKind.wrap_u64]; omega
      have HIN : Hid (∀ i, i < n → f + i ∈ m.pgs) := Lib.hid (fun i hi => of_decide_eq_true (List.all_eq_true.1 han i (List.mem_range.2 hi)))
      have HM0 := Lib.hid h
      clear hp hbad h hall han hmp
      go_enter Try.func44, Try.ntmps44
      go_wp2_with fail
      refine HA.out.mono ?_; rintro e W0 ⟨rfl, rfl⟩
      go_wp2_with fail
      refine HMP.out.mono ?_; rintro e W0 ⟨rfl, rfl⟩
      go_wp2_with fail
      go_loopw [7, 20] (fun _ iv wr => ∃ k : Nat, iv = .int .u64 k ∧ k ≤ n ∧ Hid (∃ D', MemO wr M B D' pb F (delN m f k)) ∧ Hid (KP W.heap.size F W wr)) (fun _ iv _ => n - (intOf iv).toNat)
      case atStart => exact ⟨0, rfl, by omega, Lib.hid ⟨D, HM0.out⟩, Lib.hid (KP.refl _ _ _)⟩
      case round =>
        obtain ⟨k, rfl, hk, HE, HK⟩ := hrel
        obtain ⟨D2, hM⟩ := HE.out
        by_cases hlt : k < n
        · have hkk : (k : Int) < (n : Int) := by omega
          have c0 : wr.cell? ⟨M, 0, none⟩ = some (.map (some B)) := hM.box.cell 0
          have w2 : IntKind.u64.wrap ((f : Int) + (k : Int)) = (f : Int) + (k : Int) := by rw [IntKind.wrap_u64]; omega
          have w3 : IntKind.u64.wrap ((k : Int) + 1) = (k : Int) + 1 := by rw [IntKind.wrap_u64]; omega
          have hyes : f + k ∈ (delN m f k).pgs := (delN_mem m f k _).2 ⟨by omega, HIN.out k hlt⟩
          obtain ⟨W3, hrun, ⟨D3, hM3⟩, hk3⟩ := hM.del (f + k) hyes 0
          rw [show ((f + k : Nat) : Int) = (f : Int) + (k : Int) by omega] at hrun
          have HE3 : Hid (∃ D', MemO W3 M B D' pb F (delN m f (k + 1))) := Lib.hid ⟨_, hM3⟩
          have HK3 : Hid (KP W.heap.size F W W3) := Lib.hid (HK.out.trans (hk3.mono HK.out.size (fun b hb e => by rw [show b = B from e]; exact HM0.out.fb)))
          clear hM hyes hM3 hk3 HE HK
          go_wp2_with fail
          go_roundw
          case rel => exact ⟨k + 1, by go_num, by omega, HE3, HK3⟩
          case measure => simp [intOf]; omega
        · obtain rfl : k = n := by omega
          have HM3 := Lib.hid hM.at_
          clear hM HE
          go_wp2_with fail
          go_ret
          exact ⟨rfl, HM3.out, HK.out⟩
end Go.Proofs.Yteaididdamihlaa
