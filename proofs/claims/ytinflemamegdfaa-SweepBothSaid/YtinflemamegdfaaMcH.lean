/- The two sweeps of memory are one: plain mathematics. -/
import Derived.Test.YtinflemamegdfaaMcG
namespace Go.Proofs.Ytinflemamegdfaa
set_option linter.unusedVariables false
set_option linter.unusedSimpArgs false
open Go

theorem tagP_all (m : Mm) (g : Nat) : (tagP m g).by_ = m.by_ ∧ (tagP m g).pgs = m.pgs ∧ (tagP m g).mks = ins g m.mks := ⟨rfl, rfl, rfl⟩
theorem putC_by (m : Mm) (a : Nat) (c : Cp) : (putC m a c).by_ = (wrL m a (capB c)).by_ ∧ (putC m a c).pgs = m.pgs := by
  have hp := (wrL_pgs m a (capB c)).1
  unfold putC
  generalize wrL m a (capB c) = x at *
  split
  · exact ⟨(tagP_all x _).1, (tagP_all x _).2.1.trans hp⟩
  · exact ⟨rfl, hp⟩
theorem capOf_congr {m m' : Mm} {a : Nat} (h : ∀ j, j < 32 → m.by_ (a + j) = m'.by_ (a + j)) (hk : a / 32 ∈ m.mks ↔ a / 32 ∈ m'.mks) : capOf m a = capOf m' a := by
  have hm : ∀ k n, k + n ≤ 32 → manyB m (a + k) n = manyB m' (a + k) n := fun k n hkn => by
    unfold manyB
    refine List.map_congr_left fun i hi => ?_
    have := List.mem_range.1 hi
    rw [Nat.add_assoc]
    exact h _ (by omega)
  have h0 := hm 0 8 (by omega)
  rw [Nat.add_zero] at h0
  have hd : decide (a / 32 ∈ m.mks) = decide (a / 32 ∈ m'.mks) := decide_eq_decide.2 hk
  unfold capOf
  rw [h0, hm 8 8 (by omega), hm 16 8 (by omega), h 24 (by omega), h 25 (by omega), hd]
theorem capB_ne (c : Cp) : capB c ≠ [] := fun e => by have := capB_len c; rw [e] at this; cases this
theorem putC_byO (m : Mm) (a : Nat) (c : Cp) (y : Nat) (h : y < a ∨ a + 32 ≤ y) : (putC m a c).by_ y = m.by_ y := by
  rw [(putC_by m a c).1, wrL_by, dif_neg (by rw [capB_len]; omega)]
theorem putC_mkO (m : Mm) (a : Nat) (c : Cp) (g : Nat) (ha : a % 32 = 0) (hg : g ≠ a / 32) : g ∈ (putC m a c).mks ↔ g ∈ m.mks := by
  have hw : g ∈ (wrL m a (capB c)).mks ↔ g ∈ m.mks := by
    rw [wrL_mk m a (capB c) (capB_ne c), capB_len, List.mem_filter]
    have : inGr a 32 g = false := by
      unfold inGr
      by_cases h1 : a ≤ 32 * g + 31
      · rw [decide_eq_true h1, decide_eq_false (by omega)]; rfl
      · rw [decide_eq_false h1]; rfl
    rw [this]
    simp
  unfold putC
  split
  · rw [(tagP_all _ _).2.2, mem_ins]
    constructor
    · rintro (h | h)
      · exact absurd h hg
      · exact hw.1 h
    · intro h; exact Or.inr (hw.2 h)
  · exact hw
theorem capOf_putO (m : Mm) (a a' : Nat) (c : Cp) (ha : a % 32 = 0) (ha' : a' % 32 = 0) (hne : a' ≠ a) : capOf (putC m a c) a' = capOf m a' :=
  capOf_congr (fun j hj => putC_byO m a c _ (by omega)) (putC_mkO m a c _ ha (by omega))
theorem storeC_pgs (m : Mm) (a : Int) (c : Cp) : (storeC m a c).1.pgs = m.pgs := by
  unfold storeC
  split
  · exact (putC_by m _ c).2
  · rfl
theorem spotE_zero {m : Mm} {a : Nat} (ha : a % 32 = 0) (hp : a / 256 ∈ m.pgs) : spotE m (a : Int) = 0 := by
  unfold spotE isIn
  rw [if_neg (by omega), show ((a : Int) / 256).toNat = a / 256 by omega, decide_eq_true hp, if_pos rfl]

theorem gran_pair {m : Mm} (h : Okm m) (f n ty : Int) : (gran f n ty m).Pairwise (· < ·) := by
  unfold gran
  refine List.Pairwise.filter _ ?_
  exact List.Pairwise.map _ (fun a b hab => by omega) h.mr
theorem sw_step {m : Mm} (h : Okm m) (f n ty : Int) : ∀ k, k ≤ (gran f n ty m).length → swM f n ty m ((gran f n ty m).take k) = swD m ((gran f n ty m).take k) ∧ (swD m ((gran f n ty m).take k)).1.pgs = m.pgs ∧
    ∀ j (hj : j < (gran f n ty m).length), k ≤ j → capOf (swD m ((gran f n ty m).take k)).1 (gran f n ty m)[j] = capOf m (gran f n ty m)[j]
  | 0, _ => by
    rw [List.take_zero, swM_nil, swD_nil]
    exact ⟨rfl, rfl, fun j hj _ => rfl⟩
  | k + 1, hk => by
    obtain ⟨h1, h2, h3⟩ := sw_step h f n ty k (by omega)
    have hkl : k < (gran f n ty m).length := by omega
    have hin : (gran f n ty m)[k] ∈ gran f n ty m := List.getElem_mem hkl
    have hpw := gran_pair h f n ty
    have hlt : ∀ j (hj : j < (gran f n ty m).length), k < j → (gran f n ty m)[k] < (gran f n ty m)[j] := fun j hj hkj => List.pairwise_iff_getElem.1 hpw k j hkl hj hkj
    have hmod : ∀ j (hj : j < (gran f n ty m).length), (gran f n ty m)[j] % 32 = 0 := fun j hj => (mark_load h (List.mem_filter.1 (List.getElem_mem hj : (gran f n ty m)[j] ∈ gran f n ty m)).1).2.1
    rw [swM_snoc f n ty m _ k hkl, swD_snoc m _ k hkl, h1]
    obtain ⟨x1, x2, x3, x4⟩ := mark_load h (List.mem_filter.1 hin).1
    have ht := (List.mem_filter.1 hin).2
    have h3k := h3 k hkl (Nat.le_refl _)
    generalize swD m ((gran f n ty m).take k) = p at *
    obtain ⟨x, hx⟩ : ∃ x, (gran f n ty m)[k] = x := ⟨_, rfl⟩
    have hl : loadC p.1 (x : Int) = (capOf m x, 0) := by
      rw [← hx]
      unfold loadC
      rw [spotE_zero x2 (by rw [h2]; exact x3), if_pos rfl, Int.toNat_natCast, h3k]
    have htc : tch f n ty (capOf m x) = true := by
      rw [hx] at ht x4
      have ht : tch f n ty (loadC m (x : Int)).1 = true := ht
      rw [x4] at ht
      exact ht
    have hsp : spotE p.1 (x : Int) = 0 := by rw [← hx]; exact spotE_zero x2 (by rw [h2]; exact x3)
    have hst : (storeC p.1 (x : Int) (clrC (capOf m x))).1 = putC p.1 x (clrC (capOf m x)) := by
      unfold storeC
      rw [hsp, if_pos rfl, Int.toNat_natCast]
    have e1 : stepP f n ty p x = stepD p x := by
      unfold stepP stepD swp cnt
      rw [hl]
      simp only []
      rw [htc, if_pos rfl, if_pos rfl]
    rw [hx, e1]
    refine ⟨rfl, ?_, fun j hj hkj => ?_⟩
    · unfold stepD
      simp only []
      rw [storeC_pgs, h2]
    · unfold stepD
      rw [hl]
      simp only []
      rw [hst]
      have hne : (gran f n ty m)[j] ≠ x := by have := hlt j hj (by omega); rw [hx] at this; omega
      rw [capOf_putO p.1 x _ _ (by rw [← hx]; exact x2) (hmod j hj) hne]
      exact h3 j hj (by omega)
theorem sw_same {m : Mm} (h : Okm m) (f n ty : Int) : swM f n ty m (gran f n ty m) = swD m (gran f n ty m) := by
  have := (sw_step h f n ty (gran f n ty m).length (Nat.le_refl _)).1
  rwa [List.take_of_length_le (Nat.le_refl _)] at this
end Go.Proofs.Ytinflemamegdfaa
