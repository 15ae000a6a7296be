/- What the document's reader reads of a list of numbers: its contract. -/
import Derived.Test.YtknldomgmogccaaCgF
import Derived.Deep.Cut
import Derived.BigRegion
namespace Go.Proofs.Ytknldomgmogccaa
set_option linter.unusedVariables false
set_option linter.unusedSimpArgs false
open Go.Joins Go.ChangeShapes Go.WideShapes Go.ChangeAt Go.RowKit Go.Deep

set_option maxHeartbeats 2000000 in
set_option maxRecDepth 100000 in
theorem rlist_any (base R : Nat) (b : List UInt8) (s : St) (W : World) (h : RrAt base R W b s) :
    Calls Try.prog 19 #[.pointer (some ⟨R, 0, none⟩)] W fun e W' => (∃ a c, e = .returned (.slice a (listH halfP s).1.length c) ∧ W'.ownsRow W.heap.size 3 1 (.slice a (listH halfP s).1.length c) (listH halfP s).1.length (i64s (listH halfP s).1)) ∧ RrAt base R W' b (listH halfP s).2 ∧ KP W.heap.size (· = R) W W' := by
  have hlt := h.lt
  have HH := Lib.hid (rnum_any base R b s 2 W h (by decide) (by decide))
  have hn := numP_lt 2 s
  unfold listH
  obtain ⟨⟨n0, s0⟩, h0⟩ : ∃ x, numP 2 s = x := ⟨_, rfl⟩
  rw [h0] at HH hn ⊢
  have hn : n0 < 65536 := hn
  simp only [] at HH ⊢
  obtain ⟨⟨L, sf⟩, hL⟩ : ∃ x, listP halfP n0 s0 = x := ⟨_, rfl⟩
  rw [hL]
  simp only []
  have HL := Lib.hid hL
  clear h h0 hL
  go_enter Try.func19, Try.ntmps19
  go_wp2_with fail
  refine HH.out.mono ?_; rintro e W1 ⟨rfl, hrd, hkp⟩
  have HR1 := Lib.hid hrd
  have HK1 := Lib.hid hkp
  clear hrd hkp
  go_wp2_with fail
  go_loopw [3, 5] (fun lv iv wr => ∃ (k j : Nat) (sj : St) (v : Value) (xs : List Int), v = lv ∧ iv = .int .i64 k ∧ k + j = n0 ∧ xs.length = k ∧ Hid (wr.ownsRow W.heap.size 3 1 v xs.length (i64s xs)) ∧ Hid (RrAt base R wr b sj) ∧ Hid (KP W.heap.size (· = R) W wr) ∧ Hid ((xs ++ (listP halfP j sj).1, (listP halfP j sj).2) = (L, sf))) (fun _ iv _ => n0 - (intOf iv).toNat)
  case atStart => exact ⟨0, n0, s0, _, [], rfl, rfl, by omega, rfl, Lib.hid (World.ownsRow_nil _ _ _ _), HR1, HK1, Lib.hid HL.out⟩
  case round =>
    obtain ⟨k, j, sj, v, xs, rfl, rfl, hj, hxk, HO, HR, HK, HE⟩ := hrel
    have HXK := Lib.hid hxk
    have hxl : xs.length < 65536 := by omega
    clear hxk
    obtain ⟨k0, hk0, hk1, ra, rc, hbx, -, -⟩ := HR.out.box
    have c2 : wr.cell? ⟨R, 2, none⟩ = some (.int .i64 sj.wrong) := hbx.cell 2
    have hRw := hbx.lt
    have hsz := HK.out.size
    obtain ⟨wr1, hwr1⟩ : ∃ x, sj.wrong = x := ⟨_, rfl⟩
    rw [hwr1] at c2
    have HWR := Lib.hid hwr1
    clear hbx hwr1 hk1 hk0
    by_cases hgo : 0 < j ∧ wr1 = 0
    · obtain ⟨hj0, hw0⟩ := hgo
      obtain ⟨i, rfl⟩ : ∃ i, j = i + 1 := ⟨j - 1, by omega⟩
      subst hw0
      have HC := Lib.hid (rnum_any base R b sj 2 wr HR.out (by decide) (by decide))
      obtain ⟨⟨x1, s1⟩, hx⟩ : ∃ x, halfP sj = x := ⟨_, rfl⟩
      have he := HE.out
      rw [listP_step HWR.out hx] at he
      rw [show ((numP 2 sj).1 : Int) = x1 from congrArg Prod.fst hx, show (numP 2 sj).2 = s1 from congrArg Prod.snd hx] at HC
      simp only [] at HC he
      have HE2 := Lib.hid he
      have ej0 : (k : Int) < (n0 : Int) := by omega
      have HJ := Lib.hid hj
      clear he hx hj
      go_wp2_with fail
      refine HC.out.mono ?_; rintro e W2 ⟨rfl, hrd, hkp⟩
      have HO2 := Lib.hid (own_kp HO.out hkp hlt)
      have HR2 := Lib.hid hrd
      have HK2 := Lib.hid (step_kp HK.out hkp)
      have hs2 := hkp.size
      clear hrd hkp
      go_wp2_with (at_builtin; refine wpList_appE 28 3 (.int .i64 0) 1 8 Try.underlying28 infoInt rfl (by decide) (by decide) _ rfl _ _ rfl W.heap.size v xs.length (i64s xs) rfl (HO2.out.alloc _) (some ⟨W2.heap.size, 0, none⟩) 1 1 [.int .i64 x1] rfl (Rd.lit W2 #[.int .i64 x1] 3 (by show 1 ≤ maxLen; decide)) (fun u hu => by simp at hu; subst hu; rfl) (by omega) (by rw [size_alloc]; omega) ?_; intro a3 c3 W3 hown3 hgrow3 hat3)
      have HO3 := Lib.hid (show W3.ownsRow W.heap.size 3 1 (.slice a3 (xs.length + 1) c3) (xs ++ [x1]).length (i64s (xs ++ [x1])) by rw [i64s_snoc, List.length_append]; exact hown3)
      have HR3 := Lib.hid ((HR2.out.below (bAlloc (Below.refl _ _) (.cells #[.int .i64 x1] 3))).kp ((KP.refl (R + 1) (fun _ => False) (W2.alloc (.cells #[.int .i64 x1] 3))).grown hgrow3 (by rw [size_alloc]; omega) (fun r e => Or.inl (by have := (HO2.out.lt r e).1; omega))) (Nat.lt_succ_self R) (fun _ _ => id))
      have HK3 := Lib.hid ((HK2.out.alloc (.cells #[.int .i64 x1] 3) (by omega)).grown hgrow3 (by rw [size_alloc]; omega) (fun r e => Or.inl (HO2.out.lt r e).1))
      clear hown3 hgrow3 hat3
      go_wp2_with fail
      go_roundw
      case rel => exact ⟨k + 1, i, s1, _, xs ++ [x1], rfl, by go_num, by have := HJ.out; omega, by rw [List.length_append, HXK.out]; rfl, HO3, HR3, HK3, Lib.hid (by rw [← HE2.out]; simp)⟩
      case measure => simp [intOf] <;> omega
    · have he := HE.out
      have hend : listP halfP j sj = ([], sj) := by
        rcases Nat.eq_zero_or_pos j with h0 | h0
        · subst h0; rfl
        · exact listP_wrong _ _ _ (fun q => hgo ⟨h0, HWR.out.symm.trans q⟩)
      rw [hend, List.append_nil] at he
      simp only [Prod.mk.injEq] at he
      obtain ⟨he1, he2⟩ := he
      subst he1
      subst he2
      obtain ⟨a', c', rfl, -⟩ := own_slice HO.out
      clear hend
      by_cases hj0 : 0 < j
      · have hw0 : ¬ wr1 = 0 := fun q => hgo ⟨hj0, q⟩
        have ej0 : (k : Int) < (n0 : Int) := by omega
        clear hj
        go_wp2_with fail
        go_ret
        exact ⟨⟨_, _, rfl, HO.out⟩, HR.out, HK.out⟩
      · have ej0 : ¬ (k : Int) < (n0 : Int) := by omega
        clear hj
        go_wp2_with fail
        go_ret
        exact ⟨⟨_, _, rfl, HO.out⟩, HR.out, HK.out⟩
end Go.Proofs.Ytknldomgmogccaa
