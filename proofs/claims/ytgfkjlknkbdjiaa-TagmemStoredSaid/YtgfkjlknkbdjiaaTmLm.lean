/- What was stored is loaded: plain mathematics. -/
import Derived.Test.YtgfkjlknkbdjiaaTmZ
import Derived.Test.YtgfkjlknkbdjiaaTmO
import Derived.Test.YtgfkjlknkbdjiaaTmP
import Derived.Test.YtgfkjlknkbdjiaaTmG
namespace Go.Proofs.Ytgfkjlknkbdjiaa
set_option linter.unusedVariables false
set_option linter.unusedSimpArgs false

theorem byteN_succ (w i : Nat) : byteN w (i + 1) = byteN (w / 256) i := by
  unfold byteN
  rw [Nat.div_div_eq_div_mul, show 8 * (i + 1) = 8 * i + 8 by omega, Nat.pow_add, Nat.mul_comm (2 ^ (8 * i)) (2 ^ 8)]
theorem littleN_cons (w n : Nat) : littleN w (n + 1) = w % 256 :: littleN (w / 256) n := by
  unfold littleN
  rw [List.range_succ_eq_map, List.map_cons, List.map_map]
  congr 1
  · unfold byteN; simp
  · refine List.map_congr_left fun i _ => ?_
    exact byteN_succ w i
theorem ofN_little (n w : Nat) : ofN (littleN w n) = w % 256 ^ n := by
  induction n generalizing w with
  | zero => rw [Nat.pow_zero, Nat.mod_one]; rfl
  | succ n ih =>
    rw [littleN_cons]
    show w % 256 + 256 * ofN (littleN (w / 256) n) = _
    rw [ih, Nat.pow_succ, Nat.mul_comm (256 ^ n) 256, Nat.mod_mul]
theorem ofB_little (w : Nat) (h : w < 18446744073709551616) : ofB (littleN w 8) = w := by
  unfold ofB
  rw [List.take_of_length_le (by rw [littleN_length]; exact Nat.le_refl _), ofN_little]
  exact Nat.mod_eq_of_lt (by simpa using h)
theorem manyB_cut (m : Mm) (a n i k : Nat) (h : i + k ≤ n) : manyB m (a + i) k = ((manyB m a n).drop i).take k := by
  refine List.ext_getElem (by rw [List.length_take, List.length_drop, manyB_len, manyB_len]; omega) fun j h1 h2 => ?_
  rw [manyB_get, List.getElem_take, List.getElem_drop, manyB_get, Nat.add_assoc]
theorem typeB_back {y : Int} (h0 : -1 ≤ y) (h1 : y ≤ 63) : typeOf (typeB y) = y := by
  unfold typeB
  split
  · unfold typeOf
    rw [if_pos (by omega)]
    omega
  · unfold typeOf
    rw [if_neg (by omega)]
    omega
theorem manyB_put (m : Mm) (a : Nat) (l : List Nat) : manyB (wrL m a l) a l.length = l := by
  refine List.ext_getElem (manyB_len _ _ _) fun i h1 h2 => ?_
  rw [manyB_get, wrL_by, dif_pos ⟨by omega, by omega⟩]
  congr 1
  omega
theorem tagP_all (m : Mm) (g : Nat) : (tagP m g).by_ = m.by_ ∧ (tagP m g).pgs = m.pgs ∧ (tagP m g).mks = ins g m.mks := ⟨rfl, rfl, rfl⟩
theorem putC_by (m : Mm) (a : Nat) (c : Cp) : (putC m a c).by_ = (wrL m a (capB c)).by_ ∧ (putC m a c).pgs = m.pgs := by
  have hp := (wrL_pgs m a (capB c)).1
  unfold putC
  generalize wrL m a (capB c) = x at *
  split
  · exact ⟨(tagP_all x _).1, (tagP_all x _).2.1.trans hp⟩
  · exact ⟨rfl, hp⟩
theorem capOf_put {m : Mm} {a : Nat} {c : Cp} (ha : a % 32 = 0) (hf : FitC c) (hr : rightB c = true) : capOf (putC m a c) a = c := by
  have h32 : manyB (putC m a c) a 32 = capB c := by
    have := manyB_put m a (capB c)
    rw [capB_len] at this
    unfold manyB at this ⊢
    rw [(putC_by m a c).1]
    exact this
  have e0 : manyB (putC m a c) a 8 = littleN c.b.toNat 8 := by
    have := manyB_cut (putC m a c) a 32 0 8 (by decide)
    rw [h32] at this
    exact this
  have e1 : manyB (putC m a c) (a + 8) 8 = littleN c.t.toNat 8 := by rw [manyB_cut (putC m a c) a 32 8 8 (by decide), h32]; rfl
  have e2 : manyB (putC m a c) (a + 16) 8 = littleN c.a.toNat 8 := by rw [manyB_cut (putC m a c) a 32 16 8 (by decide), h32]; rfl
  have e3 : (putC m a c).by_ (a + 24) = (c.p % 256).toNat := by
    have h : (manyB (putC m a c) a 32)[24]? = some ((putC m a c).by_ (a + 24)) := by rw [List.getElem?_eq_getElem (by rw [manyB_len]; decide), manyB_get]
    rw [h32] at h
    exact (Option.some.inj h).symm
  have e4 : (putC m a c).by_ (a + 25) = typeB c.y := by
    have h : (manyB (putC m a c) a 32)[25]? = some ((putC m a c).by_ (a + 25)) := by rw [List.getElem?_eq_getElem (by rw [manyB_len]; decide), manyB_get]
    rw [h32] at h
    exact (Option.some.inj h).symm
  have e5 : decide (a / 32 ∈ (putC m a c).mks) = c.g := by
    unfold putC
    cases hg : c.g with
    | true =>
      rw [if_pos rfl]
      rw [(tagP_all _ _).2.2]
      exact decide_eq_true ((mem_ins _ _ _).2 (Or.inl rfl))
    | false =>
      rw [if_neg (by decide)]
      refine decide_eq_false fun h => ?_
      rw [wrL_mk m a (capB c) (fun e => by have := capB_len c; rw [e] at this; cases this), capB_len] at h
      have h3 := (List.mem_filter.1 h).2
      have : inGr a 32 (a / 32) = true := by
        unfold inGr
        rw [decide_eq_true (by omega), decide_eq_true (by omega)]
        rfl
      rw [this] at h3
      cases h3
  obtain ⟨b0, b1, t0, t1, a0, a1⟩ := hf
  simp only [rightB, Bool.and_eq_true, decide_eq_true_eq] at hr
  obtain ⟨p0, p1, y0, y1⟩ := hr
  unfold capOf
  rw [e0, e1, e2, e3, e4, e5, ofB_little _ (by omega), ofB_little _ (by omega), ofB_little _ (by omega), typeB_back y0 y1, Int.toNat_of_nonneg b0, Int.toNat_of_nonneg t0, Int.toNat_of_nonneg a0, Int.toNat_of_nonneg (by omega), Int.emod_eq_of_lt p0 (by omega)]
/-- a capability is stored at a granule, then eight bytes into it -/
theorem stored_all {m : Mm} {s k : Nat} {c : Cp} {w : Int} (hs : s % 32 = 0) (hk : k < 4) (hf : FitC c) (hr : rightB c = true) (hw0 : 0 ≤ w) (hw1 : w < 18446744073709551616) (hin : spotE m (s : Int) = 0) :
    storeC m (s : Int) c = (putC m s c, 0) ∧ loadC (putC m s c) (s : Int) = (c, 0) ∧ storeF (putC m s c) ((s + 8 * k : Nat) : Int) 8 w = (wrL (putC m s c) (s + 8 * k) (littleN w.toNat 8), 0) ∧
    loadF (wrL (putC m s c) (s + 8 * k) (littleN w.toNat 8)) ((s + 8 * k : Nat) : Int) 8 = (w, 0) ∧ loadF (wrL (putC m s c) (s + 8 * k) (littleN w.toNat 8)) ((s + 8 * k : Nat) : Int) 1 = (w % 256, 0) ∧
    ∃ d : Cp, loadC (wrL (putC m s c) (s + 8 * k) (littleN w.toNat 8)) (s : Int) = (d, 0) ∧ d.g = false := by
  have hmem : s / 256 ∈ m.pgs := by
    unfold spotE at hin
    rw [if_neg (by omega)] at hin
    split at hin
    · rename_i h
      have := of_decide_eq_true h
      rwa [show ((s : Int) / 256).toNat = s / 256 by omega] at this
    · cases hin
  have hsp : ∀ m' : Mm, m'.pgs = m.pgs → spotE m' (s : Int) = 0 := fun m' e => by
    unfold spotE isIn
    rw [if_neg (by omega), e, show ((s : Int) / 256).toNat = s / 256 by omega, decide_eq_true hmem, if_pos rfl]
  have hnm : ∀ (m' : Mm) (n : Int), m'.pgs = m.pgs → n = 8 ∨ n = 1 → numE m' ((s + 8 * k : Nat) : Int) n = 0 := fun m' n e hn => by
    unfold numE isIn
    rw [if_neg (by omega), if_neg (by rcases hn with rfl | rfl <;> omega), e, show (((s + 8 * k : Nat) : Int) / 256).toNat = s / 256 by omega, decide_eq_true hmem, if_pos rfl]
  have hp1 := (putC_by m s c).2
  have hp2 : (wrL (putC m s c) (s + 8 * k) (littleN w.toNat 8)).pgs = m.pgs := by rw [(wrL_pgs _ _ _).1, hp1]
  have hmb : manyB (wrL (putC m s c) (s + 8 * k) (littleN w.toNat 8)) (s + 8 * k) 8 = littleN w.toNat 8 := by
    have := manyB_put (putC m s c) (s + 8 * k) (littleN w.toNat 8)
    rwa [littleN_length] at this
  refine ⟨?_, ?_, ?_, ?_, ?_, capOf (wrL (putC m s c) (s + 8 * k) (littleN w.toNat 8)) s, ?_, ?_⟩
  · unfold storeC; rw [hin, if_pos rfl, Int.toNat_natCast]
  · unfold loadC; rw [hsp _ hp1, if_pos rfl, Int.toNat_natCast, capOf_put hs hf hr]
  · unfold storeF; rw [hnm _ 8 hp1 (Or.inl rfl), if_pos rfl, Int.toNat_natCast]; rfl
  · unfold loadF
    rw [hnm _ 8 hp2 (Or.inl rfl), if_pos rfl, Int.toNat_natCast, show (8 : Int).toNat = 8 from rfl, hmb, ofB_little _ (by omega), Int.toNat_of_nonneg hw0]
  · unfold loadF
    rw [hnm _ 1 hp2 (Or.inr rfl), if_pos rfl, Int.toNat_natCast, show (1 : Int).toNat = 1 from rfl]
    have h1 := manyB_cut (wrL (putC m s c) (s + 8 * k) (littleN w.toNat 8)) (s + 8 * k) 8 0 1 (by decide)
    rw [hmb] at h1
    rw [show s + 8 * k + 0 = s + 8 * k from rfl] at h1
    rw [h1]
    show (((w.toNat / 2 ^ (8 * 0) % 256 + 256 * 0 : Nat) : Int), (0 : Int)) = _
    simp only [Nat.mul_zero, Nat.pow_zero, Nat.div_one, Nat.add_zero]
    congr 1
    omega
  · unfold loadC; rw [hsp _ hp2, if_pos rfl, Int.toNat_natCast]
  · unfold capOf
    refine decide_eq_false fun h => ?_
    rw [wrL_mk _ _ _ (fun e => by have := littleN_length w.toNat 8; rw [e] at this; cases this), littleN_length] at h
    have h3 := (List.mem_filter.1 h).2
    have : inGr (s + 8 * k) 8 (s / 32) = true := by
      unfold inGr
      rw [decide_eq_true (by omega), decide_eq_true (by omega)]
      rfl
    rw [this] at h3
    cases h3
end Go.Proofs.Ytgfkjlknkbdjiaa
