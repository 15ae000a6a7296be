/- Two sweeps in either order: plain mathematics. -/
import Derived.Test.YtinflemamegdfaaMcP
namespace Go.Proofs.Ytinflemamegdfaa
set_option linter.unusedVariables false
set_option linter.unusedSimpArgs false
open Go

theorem tch_clr (f n ty : Int) (c : Cp) : tch f n ty (clrC c) = false := by
  rw [Bool.eq_false_iff]
  intro h
  have := tch_tag h
  cases this
theorem swp_two (f n ty o k u : Int) (c : Cp) : swp f n ty (swp o k u c) = swp o k u (swp f n ty c) := by
  unfold swp
  by_cases h1 : tch f n ty c = true
  · by_cases h2 : tch o k u c = true
    · rw [if_pos h2, if_pos h1, if_neg (by rw [tch_clr]; decide), if_neg (by rw [tch_clr]; decide)]
    · rw [if_neg h2, if_pos h1, if_neg (by rw [tch_clr]; decide)]
  · by_cases h2 : tch o k u c = true
    · rw [if_pos h2, if_neg h1, if_neg (by rw [tch_clr]; decide), if_pos h2]
    · rw [if_neg h2, if_neg h1, if_neg h2]
theorem cnt_two (f n ty o k u : Int) (c : Cp) : cnt f n ty c + cnt o k u (swp f n ty c) = cnt o k u c + cnt f n ty (swp o k u c) := by
  unfold cnt swp
  cases e1 : tch f n ty c <;> cases e2 : tch o k u c <;> simp [e1, e2, tch_clr]
theorem swR_two (f n ty o k u : Int) (rs : List Cp) : swR f n ty (swR o k u rs) = swR o k u (swR f n ty rs) := by
  have g : ∀ (f n ty o k u : Int), swR f n ty (swR o k u rs) = rs.take 1 ++ ((rs.drop 1).map (swp o k u)).map (swp f n ty) := fun f n ty o k u => by
    cases rs with
    | nil => rfl
    | cons a r => rfl
  rw [g, g, List.map_map, List.map_map]
  congr 1
  refine List.map_congr_left fun c hc => ?_
  exact swp_two f n ty o k u c
theorem swR_at2 (f n ty : Int) (rs : List Cp) (k : Nat) (h1 : 1 ≤ k) (hk : k < rs.length) (hk2 : k < (swR f n ty rs).length) : (swR f n ty rs)[k] = swp f n ty rs[k] := by
  cases rs with
  | nil => simp at hk
  | cons a r =>
    obtain ⟨j, rfl⟩ : ∃ j, k = j + 1 := ⟨k - 1, by omega⟩
    unfold swR
    simp
theorem swR_len2 (f n ty : Int) (rs : List Cp) : (swR f n ty rs).length = rs.length := by
  cases rs with
  | nil => rfl
  | cons a r => unfold swR; simp
theorem cntN_two (f n ty o k u : Int) (rs : List Cp) : ∀ j, cntN f n ty rs j + cntN o k u (swR f n ty rs) j = cntN o k u rs j + cntN f n ty (swR o k u rs) j
  | 0 => rfl
  | j + 1 => by
    have ih := cntN_two f n ty o k u rs j
    unfold cntN
    by_cases h : 1 ≤ j ∧ j < rs.length
    · have l1 : j < (swR f n ty rs).length := by rw [swR_len2]; exact h.2
      have l2 : j < (swR o k u rs).length := by rw [swR_len2]; exact h.2
      rw [dif_pos h, dif_pos h, dif_pos ⟨h.1, l1⟩, dif_pos ⟨h.1, l2⟩, swR_at2 f n ty rs j h.1 h.2 l1, swR_at2 o k u rs j h.1 h.2 l2]
      have := cnt_two f n ty o k u rs[j]
      omega
    · rw [dif_neg h, dif_neg h, dif_neg (by rw [swR_len2]; exact h), dif_neg (by rw [swR_len2]; exact h)]
      omega
/-- the marks behind a sweep -/
theorem swD_mks {m : Mm} (h : Okm m) (f n ty : Int) : ∀ k, k ≤ (gran f n ty m).length → (swD m ((gran f n ty m).take k)).1.mks = m.mks.filter (fun g => !decide (32 * g ∈ (gran f n ty m).take k))
  | 0, _ => by
    rw [List.take_zero, swD_nil]
    exact (List.filter_eq_self.2 (fun g _ => by simp)).symm
  | k + 1, hk => by
    have hkl : k < (gran f n ty m).length := by omega
    obtain ⟨h1, h2, h3⟩ := sw_step h f n ty k (by omega)
    have ih := swD_mks h f n ty k (by omega)
    have hin : (gran f n ty m)[k] ∈ gran f n ty m := List.getElem_mem hkl
    obtain ⟨x1, x2, x3, x4⟩ := mark_load h (List.mem_filter.1 hin).1
    rw [swD_snoc m _ k hkl]
    generalize swD m ((gran f n ty m).take k) = p at *
    obtain ⟨x, hx⟩ : ∃ x, (gran f n ty m)[k] = x := ⟨_, rfl⟩
    rw [hx] at x2 x3
    rw [hx, List.take_succ_eq_append_getElem hkl, hx]
    have hsp : spotE p.1 (x : Int) = 0 := spotE_zero x2 (by rw [h2]; exact x3)
    have hst : ∀ c : Cp, (storeC p.1 (x : Int) (clrC c)).1 = wrL p.1 x (capB (clrC c)) := fun c => by
      unfold storeC
      rw [hsp, if_pos rfl, Int.toNat_natCast]
      rfl
    unfold stepD
    simp only []
    rw [hst, wrL_mk _ _ _ (capB_ne _), capB_len, ih, List.filter_filter]
    refine List.filter_congr fun g _ => ?_
    rw [Bool.eq_iff_iff]
    unfold inGr
    simp only [Bool.and_eq_true, Bool.not_eq_true', Bool.and_eq_false_iff, decide_eq_false_iff_not, decide_eq_true_eq, List.mem_append, List.mem_singleton, not_or]
    constructor
    · rintro ⟨a, b⟩
      exact ⟨b, fun e => by omega⟩
    · rintro ⟨a, b⟩
      exact ⟨by omega, a⟩
theorem swD_marks {m : Mm} (h : Okm m) (f n ty : Int) : (swD m (gran f n ty m)).1.mks = m.mks.filter (fun g => !tch f n ty (capOf m (32 * g))) := by
  have h1 := swD_mks h f n ty (gran f n ty m).length (Nat.le_refl _)
  rw [List.take_of_length_le (Nat.le_refl _)] at h1
  rw [h1]
  refine List.filter_congr fun g hg => ?_
  have hm : 32 * g ∈ m.mks.map (32 * ·) := List.mem_map.2 ⟨g, hg, rfl⟩
  obtain ⟨x1, x2, x3, x4⟩ := mark_load h hm
  congr 1
  rw [Bool.eq_iff_iff, decide_eq_true_eq]
  unfold gran
  rw [List.mem_filter]
  have e : tch f n ty (loadC m ((32 * g : Nat) : Int)).1 = tch f n ty (capOf m (32 * g)) := by rw [x4]
  constructor
  · rintro ⟨-, b⟩; exact e ▸ b
  · intro b; exact ⟨hm, e ▸ b⟩
theorem gran_cnt {m : Mm} (h : Okm m) (f n ty : Int) : (gran f n ty m).length = m.mks.countP (fun g => tch f n ty (capOf m (32 * g))) := by
  unfold gran
  rw [← List.countP_eq_length_filter, List.countP_map]
  refine List.countP_congr fun g hg => ?_
  have hm : 32 * g ∈ m.mks.map (32 * ·) := List.mem_map.2 ⟨g, hg, rfl⟩
  obtain ⟨x1, x2, x3, x4⟩ := mark_load h hm
  show tch f n ty (loadC m ((32 * g : Nat) : Int)).1 = true ↔ _
  rw [x4]
theorem swD_ok {m : Mm} (h : Okm m) (f n ty : Int) : ∀ g ∈ (swD m (gran f n ty m)).1.mks, capOf (swD m (gran f n ty m)).1 (32 * g) = capOf m (32 * g) := fun g hg => by
  have h1 := sw_caps h f n ty (gran f n ty m).length (Nat.le_refl _) (32 * g) (by omega)
  rw [List.take_of_length_le (Nat.le_refl _)] at h1
  rw [h1]
  rw [swD_marks h f n ty] at hg
  obtain ⟨hg1, hg2⟩ := List.mem_filter.1 hg
  have hm : 32 * g ∈ m.mks.map (32 * ·) := List.mem_map.2 ⟨g, hg1, rfl⟩
  obtain ⟨x1, x2, x3, x4⟩ := mark_load h hm
  rw [if_neg (fun hin => by
    have ht := (List.mem_filter.1 hin).2
    have ht : tch f n ty (loadC m ((32 * g : Nat) : Int)).1 = true := ht
    rw [x4] at ht
    have ht : tch f n ty (capOf m (32 * g)) = true := ht
    rw [ht] at hg2
    cases hg2)]
theorem two_marks {m : Mm} (h : Okm m) (f n ty o k u : Int) (h1 : Okm (swD m (gran f n ty m)).1) :
    (swD (swD m (gran f n ty m)).1 (gran o k u (swD m (gran f n ty m)).1)).1.mks = m.mks.filter (fun g => !tch f n ty (capOf m (32 * g)) && !tch o k u (capOf m (32 * g))) ∧
    (gran f n ty m).length + (gran o k u (swD m (gran f n ty m)).1).length = m.mks.countP (fun g => tch f n ty (capOf m (32 * g)) || tch o k u (capOf m (32 * g))) := by
  have hok := swD_ok h f n ty
  have hmk := swD_marks h f n ty
  refine ⟨?_, ?_⟩
  · rw [swD_marks h1 o k u]
    rw [List.filter_congr (q := fun g => !tch o k u (capOf m (32 * g))) (fun g hg => by rw [hok g hg]), hmk, List.filter_filter]
    refine List.filter_congr fun g _ => ?_
    rw [Bool.and_comm]
  · rw [gran_cnt h f n ty, gran_cnt h1 o k u]
    have e : (swD m (gran f n ty m)).1.mks.countP (fun g => tch o k u (capOf (swD m (gran f n ty m)).1 (32 * g))) = (swD m (gran f n ty m)).1.mks.countP (fun g => tch o k u (capOf m (32 * g))) := List.countP_congr (fun g hg => by rw [hok g hg])
    rw [e, hmk, List.countP_filter]
    generalize m.mks = l
    induction l with
    | nil => rfl
    | cons a r ih =>
      simp only [List.countP_cons]
      cases tch f n ty (capOf m (32 * a)) <;> cases tch o k u (capOf m (32 * a)) <;> simp <;> omega
end Go.Proofs.Ytinflemamegdfaa
