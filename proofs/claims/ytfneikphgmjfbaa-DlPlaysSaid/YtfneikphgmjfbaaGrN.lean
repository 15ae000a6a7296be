/- The document's Begin: contract. -/
import Derived.Test.YtfneikphgmjfbaaGrM
namespace Go.Proofs.Ytfneikphgmjfbaa
set_option linter.unusedVariables false
set_option linter.unusedSimpArgs false
open Go.Joins Go.ChangeShapes Go.WideShapes Go.ChangeAt Go.RowKit

theorem VisAt.start (w : World) (l : List Obj) (t : TypeId) : VisAt w (w.alloc (.cells #[.slice none 0 0, .slice none 0 0] t)) w.heap.size l [] [] :=
  ⟨⟨Nat.le_refl _, by simp⟩, fun j => frozen_new _ _ _ _ _ rfl, ⟨.slice none 0 0, .slice none 0 0, (boxed (Below.refl _ _) 0).trans rfl, (boxed (Below.refl _ _) 1).trans rfl, World.ownsRow_nil _ _ _ _, World.ownsRow_nil _ _ _ _, fun g h hg => by cases hg⟩, bAlloc (Below.refl _ _) _, ⟨by simp, by simp, by simp, by simp⟩, by simp⟩
set_option maxHeartbeats 1000000 in
theorem rbegin_any (a : Option Addr) (l : List Obj) (c : Nat) (b : Option Addr) (ord : List Nat) (d : Nat) (w : World) (hl : RdO w a l) (hm : l.length ≤ 1000000) (hnm : Named l) (ho : Rd w b ord.length (i64s (ordZ ord))) (hord : ∀ k ∈ ord, k < l.length) (hol : ord.length ≤ 1000000) :
    Calls Try.prog 32 #[.slice a l.length c, .slice b ord.length d] w (BeginPost w l ord) := by
  have HV1 := Lib.hid (fun met out k W h hk => visit1_any w w.heap.size a b c d l ord hl hm hnm ho hol (waits l ord met) met out k W h (Nat.le_refl _) hk)
  have HO := Lib.hid ho
  have HORD := Lib.hid hord
  have HST := Lib.hid (VisAt.start w l 81)
  clear hl hnm ho hord
  obtain ⟨m, hlm⟩ : ∃ m, l.length = m := ⟨_, rfl⟩
  obtain ⟨q, hq⟩ : ∃ q, ord.length = q := ⟨_, rfl⟩
  rw [hlm] at hm HV1 ⊢
  rw [hq] at hol HV1 ⊢
  have HLM := Lib.hid hlm
  have HQ := Lib.hid hq
  clear hlm hq
  go_enter Try.func32, Try.ntmps32
  go_wp2_with fail
  go_loopw [6] (fun i wr => ∃ (j : Nat) (m1 o1 : List Nat), i = .int .i64 j ∧ j ≤ q ∧ Hid (Vis l ord [] [] ((ord.take j).map some) m1 o1) ∧ Hid (VisAt w wr w.heap.size l m1 o1)) (fun i _ => q - (intOf i).toNat)
  case atStart => exact ⟨0, [], [], rfl, by omega, Lib.hid (by rw [List.take_zero]; exact Vis.nil _ _), HST⟩
  case round =>
    obtain ⟨j, m1, o1, rfl, hj, HV, HB⟩ := hrel
    by_cases hjq : j < q
    · have hjo : j < ord.length := by rw [HQ.out]; exact hjq
      have hro := HO.out.below HB.out.2.2.2.1
      rw [HQ.out] at hro
      obtain ⟨B, off, rfl, -, hc⟩ := hro.at_ hjq
      rw [ordZ_get ord j hjo] at hc
      have hk := HORD.out _ (List.getElem_mem hjo)
      have htk : ord.take (j + 1) = ord.take j ++ [ord[j]] := List.take_succ_eq_append_getElem hjo
      generalize ord[j] = k at hc hk htk
      have HTK := Lib.hid htk
      have HC := Lib.hid (HV1.out m1 o1 k wr HB.out (by rw [← HLM.out]; exact hk))
      clear htk hk hro
      go_wp2_with fail
      refine HC.out.mono ?_; rintro e w2 ⟨rfl, m2, o2, hv, hbg⟩
      have HV2 := Lib.hid (show Vis l ord [] [] ((ord.take (j + 1)).map some) m2 o2 by rw [HTK.out, List.map_append]; exact HV.out.snoc hv)
      have HB2 := Lib.hid hbg
      clear hv hbg hc
      go_wp2_with fail
      go_roundw
      case rel => exact ⟨j + 1, m2, o2, by go_num, by omega, HV2, HB2⟩
      case measure => simp [intOf]; omega
    · have hv0 := HV.out
      rw [List.take_of_length_le (by rw [HQ.out]; omega)] at hv0
      have HV2 := Lib.hid hv0
      obtain ⟨-, -, ⟨vm, vo, -, c1, -, oo, -⟩, hb, hg, -⟩ := HB.out
      obtain ⟨ao, co, rfl, -⟩ := own_slice oo
      have HOO := Lib.hid (oo.mono (base' := w.heap.size) (by omega))
      have HG := Lib.hid hg
      have HBEL := Lib.hid hb
      clear hv0 oo hg hb
      go_wp2_with fail
      go_ret
      exact ⟨ao, co, m1, o1, rfl, HV2.out, HOO.out, HG.out, HBEL.out⟩
end Go.Proofs.Ytfneikphgmjfbaa
