/- What does not touch is what it was: plain mathematics. -/
import Derived.Test.YtinflemamegdfaaMcK
namespace Go.Proofs.Ytinflemamegdfaa
set_option linter.unusedVariables false
set_option linter.unusedSimpArgs false
open Go

theorem byteN_succ (w i : Nat) : byteN w (i + 1) = byteN (w / 256) i := by
  unfold byteN
  rw [Nat.div_div_eq_div_mul, show 8 * (i + 1) = 8 * i + 8 by omega, Nat.pow_add, Nat.mul_comm (2 ^ (8 * i)) (2 ^ 8)]
theorem littleN_cons (w n : Nat) : littleN w (n + 1) = w % 256 :: littleN (w / 256) n := by
  unfold littleN
  rw [List.range_succ_eq_map, List.map_cons, List.map_map]
  congr 1
  · unfold byteN; simp
  · refine List.map_congr_left fun i _ => ?_
    exact byteN_succ w i
theorem ofN_little (n w : Nat) : ofN (littleN w n) = w % 256 ^ n := by
  induction n generalizing w with
  | zero => rw [Nat.pow_zero, Nat.mod_one]; rfl
  | succ n ih =>
    rw [littleN_cons]
    show w % 256 + 256 * ofN (littleN (w / 256) n) = _
    rw [ih, Nat.pow_succ, Nat.mul_comm (256 ^ n) 256, Nat.mod_mul]
theorem ofB_little (w : Nat) (h : w < 18446744073709551616) : ofB (littleN w 8) = w := by
  unfold ofB
  rw [List.take_of_length_le (by rw [littleN_length]; exact Nat.le_refl _), ofN_little]
  exact Nat.mod_eq_of_lt (by simpa using h)
theorem manyB_cut (m : Mm) (a n i k : Nat) (h : i + k ≤ n) : manyB m (a + i) k = ((manyB m a n).drop i).take k := by
  refine List.ext_getElem (by rw [List.length_take, List.length_drop, manyB_len, manyB_len]; omega) fun j h1 h2 => ?_
  rw [manyB_get, List.getElem_take, List.getElem_drop, manyB_get, Nat.add_assoc]
theorem typeB_back {y : Int} (h0 : -1 ≤ y) (h1 : y ≤ 63) : typeOf (typeB y) = y := by
  unfold typeB
  split
  · unfold typeOf
    rw [if_pos (by omega)]
    omega
  · unfold typeOf
    rw [if_neg (by omega)]
    omega
theorem manyB_put (m : Mm) (a : Nat) (l : List Nat) : manyB (wrL m a l) a l.length = l := by
  refine List.ext_getElem (manyB_len _ _ _) fun i h1 h2 => ?_
  rw [manyB_get, wrL_by, dif_pos ⟨by omega, by omega⟩]
  congr 1
  omega
theorem capOf_put {m : Mm} {a : Nat} {c : Cp} (ha : a % 32 = 0) (hf : FitC c) (hr : rightB c = true) : capOf (putC m a c) a = c := by
  have h32 : manyB (putC m a c) a 32 = capB c := by
    have := manyB_put m a (capB c)
    rw [capB_len] at this
    unfold manyB at this ⊢
    rw [(putC_by m a c).1]
    exact this
  have e0 : manyB (putC m a c) a 8 = littleN c.b.toNat 8 := by
    have := manyB_cut (putC m a c) a 32 0 8 (by decide)
    rw [h32] at this
    exact this
  have e1 : manyB (putC m a c) (a + 8) 8 = littleN c.t.toNat 8 := by rw [manyB_cut (putC m a c) a 32 8 8 (by decide), h32]; rfl
  have e2 : manyB (putC m a c) (a + 16) 8 = littleN c.a.toNat 8 := by rw [manyB_cut (putC m a c) a 32 16 8 (by decide), h32]; rfl
  have e3 : (putC m a c).by_ (a + 24) = (c.p % 256).toNat := by
    have h : (manyB (putC m a c) a 32)[24]? = some ((putC m a c).by_ (a + 24)) := by rw [List.getElem?_eq_getElem (by rw [manyB_len]; decide), manyB_get]
    rw [h32] at h
    exact (Option.some.inj h).symm
  have e4 : (putC m a c).by_ (a + 25) = typeB c.y := by
    have h : (manyB (putC m a c) a 32)[25]? = some ((putC m a c).by_ (a + 25)) := by rw [List.getElem?_eq_getElem (by rw [manyB_len]; decide), manyB_get]
    rw [h32] at h
    exact (Option.some.inj h).symm
  have e5 : decide (a / 32 ∈ (putC m a c).mks) = c.g := by
    unfold putC
    cases hg : c.g with
    | true =>
      rw [if_pos rfl]
      rw [(tagP_all _ _).2.2]
      exact decide_eq_true ((mem_ins _ _ _).2 (Or.inl rfl))
    | false =>
      rw [if_neg (by decide)]
      refine decide_eq_false fun h => ?_
      rw [wrL_mk m a (capB c) (fun e => by have := capB_len c; rw [e] at this; cases this), capB_len] at h
      have h3 := (List.mem_filter.1 h).2
      have : inGr a 32 (a / 32) = true := by
        unfold inGr
        rw [decide_eq_true (by omega), decide_eq_true (by omega)]
        rfl
      rw [this] at h3
      cases h3
  obtain ⟨b0, b1, t0, t1, a0, a1⟩ := hf
  simp only [rightB, Bool.and_eq_true, decide_eq_true_eq] at hr
  obtain ⟨p0, p1, y0, y1⟩ := hr
  unfold capOf
  rw [e0, e1, e2, e3, e4, e5, ofB_little _ (by omega), ofB_little _ (by omega), ofB_little _ (by omega), typeB_back y0 y1, Int.toNat_of_nonneg b0, Int.toNat_of_nonneg t0, Int.toNat_of_nonneg a0, Int.toNat_of_nonneg (by omega), Int.emod_eq_of_lt p0 (by omega)]


theorem capOf_right {m : Mm} (h : Okm m) (x : Nat) : rightB (capOf m x) = true := by
  have h1 := h.by_ (x + 24)
  unfold rightB capOf typeOf
  simp only [Bool.and_eq_true, decide_eq_true_eq]
  split <;> omega
theorem sw_caps {m : Mm} (h : Okm m) (f n ty : Int) : ∀ k, k ≤ (gran f n ty m).length → ∀ y, y % 32 = 0 → capOf (swD m ((gran f n ty m).take k)).1 y = if y ∈ (gran f n ty m).take k then clrC (capOf m y) else capOf m y
  | 0, _, y, hy => by rw [List.take_zero, swD_nil, if_neg (by simp)]
  | k + 1, hk, y, hy => by
    have hkl : k < (gran f n ty m).length := by omega
    obtain ⟨h1, h2, h3⟩ := sw_step h f n ty k (by omega)
    have ih := sw_caps h f n ty k (by omega) y hy
    have hin : (gran f n ty m)[k] ∈ gran f n ty m := List.getElem_mem hkl
    obtain ⟨x1, x2, x3, x4⟩ := mark_load h (List.mem_filter.1 hin).1
    have h3k := h3 k hkl (Nat.le_refl _)
    have hpw := gran_pair h f n ty
    have hni : (gran f n ty m)[k] ∉ (gran f n ty m).take k := fun hc => by
      obtain ⟨j, hj, e⟩ := List.getElem_of_mem hc
      rw [List.getElem_take] at e
      have hjk : j < k := by rw [List.length_take] at hj; omega
      have := List.pairwise_iff_getElem.1 hpw j k (by omega) hkl hjk
      omega
    rw [swD_snoc m _ k hkl]
    generalize hP : swD m ((gran f n ty m).take k) = p at *
    obtain ⟨x, hx⟩ : ∃ x, (gran f n ty m)[k] = x := ⟨_, rfl⟩
    rw [hx] at x2 x3 h3k hni
    have hsp : spotE p.1 (x : Int) = 0 := spotE_zero x2 (by rw [h2]; exact x3)
    have hl : loadC p.1 (x : Int) = (capOf m x, 0) := by
      unfold loadC
      rw [hsp, if_pos rfl, Int.toNat_natCast, h3k]
    have hst : (storeC p.1 (x : Int) (clrC (capOf m x))).1 = putC p.1 x (clrC (capOf m x)) := by
      unfold storeC
      rw [hsp, if_pos rfl, Int.toNat_natCast]
    rw [hx, List.take_succ_eq_append_getElem hkl, hx]
    unfold stepD
    rw [hl]
    simp only []
    rw [hst]
    by_cases hyx : y = x
    · subst hyx
      rw [if_pos (by simp)]
      have hf := capOf_fit h y
      exact capOf_put x2 ⟨hf.b0, hf.b1, hf.t0, hf.t1, hf.a0, hf.a1⟩ (by have := capOf_right h y; unfold rightB clrC at *; exact this)
    · rw [capOf_putO p.1 x y _ x2 hy hyx, ih]
      by_cases hm : y ∈ (gran f n ty m).take k
      · rw [if_pos hm, if_pos (by simp [hm])]
      · rw [if_neg hm, if_neg (by simp [hm, hyx])]
theorem swD_pgs {m : Mm} (h : Okm m) (f n ty : Int) : (swD m (gran f n ty m)).1.pgs = m.pgs := by
  have := (sw_step h f n ty (gran f n ty m).length (Nat.le_refl _)).2.1
  rwa [List.take_of_length_le (Nat.le_refl _)] at this
theorem tch_tag {f n ty : Int} {c : Cp} (h : tch f n ty c = true) : c.g = true := by
  unfold tch touchB progB at h
  cases hg : c.g with
  | true => rfl
  | false => rw [hg] at h; simp at h
theorem sw_spared {m : Mm} (h : Okm m) (f n ty : Int) (y : Nat) (hy : y % 32 = 0) :
    loadC (swD m (gran f n ty m)).1 (y : Int) = (swp f n ty (loadC m (y : Int)).1, (loadC m (y : Int)).2) := by
  have hc := sw_caps h f n ty (gran f n ty m).length (Nat.le_refl _) y hy
  rw [List.take_of_length_le (Nat.le_refl _)] at hc
  have hp := swD_pgs h f n ty
  have hs : spotE (swD m (gran f n ty m)).1 (y : Int) = spotE m (y : Int) := by unfold spotE isIn; rw [hp]
  unfold loadC
  rw [hs]
  by_cases h0 : spotE m (y : Int) = 0
  · rw [if_pos h0, if_pos h0, Int.toNat_natCast, hc]
    have hin : y / 256 ∈ m.pgs := by
      unfold spotE isIn at h0
      rw [if_neg (by omega)] at h0
      split at h0
      · rename_i h2
        have := of_decide_eq_true h2
        rwa [show ((y : Int) / 256).toNat = y / 256 by omega] at this
      · cases h0
    have hload : loadC m (y : Int) = (capOf m y, 0) := by unfold loadC; rw [h0, if_pos rfl, Int.toNat_natCast]
    simp only []
    by_cases hm : y ∈ gran f n ty m
    · rw [if_pos hm]
      have ht := (List.mem_filter.1 hm).2
      have ht : tch f n ty (loadC m (y : Int)).1 = true := ht
      rw [hload] at ht
      unfold swp
      rw [if_pos ht]
    · rw [if_neg hm]
      have ht : ¬ tch f n ty (capOf m y) = true := fun ht => hm (List.mem_filter.2 ⟨by
        have hg := tch_tag ht
        have hg : y / 32 ∈ m.mks := of_decide_eq_true hg
        exact List.mem_map.2 ⟨y / 32, hg, by omega⟩, by
        show tch f n ty (loadC m (y : Int)).1 = true
        rw [hload]; exact ht⟩)
      unfold swp
      rw [if_neg ht]
  · rw [if_neg h0, if_neg h0]
    simp only []
    have ht : ¬ tch f n ty noCp = true := fun ht => by have := tch_tag ht; cases this
    unfold swp
    rw [if_neg ht]
end Go.Proofs.Ytinflemamegdfaa
