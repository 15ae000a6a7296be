/- Plain mathematics of capabilities for the laws without the document's answers: what is made of one reaches no more; what is sealed reaches nothing; reaching no more goes through. No program is named here. -/
import Derived.Test.YtoijhhacgafblaaDoorCapN
namespace Go.Proofs.YtoijhhacgafblaaDoor
set_option linter.unusedVariables false
set_option linter.unusedSimpArgs false
open Go Go.RowKit

theorem and_self' (p : Int) (h0 : 0 ≤ p) (h1 : p ≤ 255) : bits .and .i64 p p = p := by
  rw [← and_both' p p h0 h1 h0 h1, Nat.and_self]; omega
theorem and_less (p q : Int) (h0 : 0 ≤ p) (h1 : p ≤ 255) : bits .and .i64 (bits .and .i64 p q) p = bits .and .i64 p q := by
  rw [← and_both p q h0 h1]
  have hle : p.toNat &&& (q % 256).toNat ≤ p.toNat := Nat.and_le_left
  rw [← and_both' _ p (by omega) (by omega) h0 h1, Int.toNat_natCast, Nat.and_comm (p.toNat &&& _) p.toNat, ← Nat.and_assoc, Nat.and_self]
theorem and_through (a b m : Int) (a0 : 0 ≤ a) (a1 : a ≤ 255) (b0 : 0 ≤ b) (b1 : b ≤ 255) (m0 : 0 ≤ m) (m1 : m ≤ 255) (h1 : bits .and .i64 a b = a) (h2 : bits .and .i64 a m = m) : bits .and .i64 b m = m := by
  rw [← and_both' _ _ a0 a1 b0 b1] at h1
  rw [← and_both' _ _ a0 a1 m0 m1] at h2
  rw [← and_both' _ _ b0 b1 m0 m1]
  have e1 : a.toNat &&& b.toNat = a.toNat := by omega
  have e2 : a.toNat &&& m.toNat = m.toNat := by omega
  rw [← e2, ← Nat.and_assoc, Nat.and_comm b.toNat a.toNat, e1, e2]; omega
theorem and_over (a b c : Int) (a0 : 0 ≤ a) (a1 : a ≤ 255) (b0 : 0 ≤ b) (b1 : b ≤ 255) (c0 : 0 ≤ c) (c1 : c ≤ 255) (h1 : bits .and .i64 a b = a) (h2 : bits .and .i64 b c = b) : bits .and .i64 a c = a := by
  rw [← and_both' _ _ a0 a1 b0 b1] at h1
  rw [← and_both' _ _ b0 b1 c0 c1] at h2
  rw [← and_both' _ _ a0 a1 c0 c1]
  have e1 : a.toNat &&& b.toNat = a.toNat := by omega
  have e2 : b.toNat &&& c.toNat = b.toNat := by omega
  rw [← e1, Nat.and_assoc, e2, e1]; omega

theorem within_of {d c : CapV} (h : d.tag = true → c.tag = true ∧ d.ty = c.ty ∧ (c.base ≤ d.base ∧ d.top ≤ c.top) ∧ bits .and .i64 d.perms c.perms = d.perms) : withinC d c = true := by
  unfold withinC
  cases hd : d.tag
  · rfl
  · obtain ⟨h1, h2, ⟨h3, h4⟩, h5⟩ := h hd
    rw [if_pos rfl, if_neg (by simp; omega), if_pos (by simp [h5])]
    simp [h1, h2]
theorem within_iff {a b : CapV} (ha : a.tag = true) : withinC a b = true ↔ (a.base < a.top → b.base ≤ a.base ∧ a.top ≤ b.top) ∧ bits .and .i64 a.perms b.perms = a.perms ∧ a.ty = b.ty ∧ b.tag = true := by
  unfold withinC
  rw [if_pos ha]
  by_cases h1 : a.base < a.top ∧ (a.base < b.base ∨ b.top < a.top)
  · rw [if_pos (by simp; omega)]; simp; omega
  · rw [if_neg (by simp; omega)]
    by_cases h2 : bits .and .i64 a.perms b.perms = a.perms
    · rw [if_pos (by simp [h2])]; simp [h2]; omega
    · rw [if_neg (by simp [h2])]; simp [h2]

theorem live_tag {c : CapV} (h : c.live = true) : c.tag = true := by unfold CapV.live at h; simp at h; exact h.1
theorem less_move (c : CapV) (x : Int) (h0 : 0 ≤ c.perms) (h1 : c.perms ≤ 255) : withinC (moveC c x) c = true :=
  within_of fun h => ⟨live_tag h, rfl, ⟨Int.le_refl _, Int.le_refl _⟩, and_self' _ h0 h1⟩
theorem less_and (c : CapV) (p : Int) (h0 : 0 ≤ c.perms) (h1 : c.perms ≤ 255) : withinC (andC c p) c = true :=
  within_of fun h => ⟨live_tag h, rfl, ⟨Int.le_refl _, Int.le_refl _⟩, and_less _ _ h0 h1⟩
theorem less_clear (c : CapV) : withinC c.clear c = true := within_of fun h => by cases h
theorem less_self (c : CapV) (h0 : 0 ≤ c.perms) (h1 : c.perms ≤ 255) : withinC c c = true :=
  within_of fun h => ⟨h, rfl, ⟨Int.le_refl _, Int.le_refl _⟩, and_self' _ h0 h1⟩
theorem less_bound (d c : CapV) (n : Int) (hb : d.base = c.base) (ht : d.top = c.top) (hp : d.perms = c.perms) (hy : d.ty = c.ty) (hg : d.tag = true → c.tag = true) (h0 : 0 ≤ c.perms) (h1 : c.perms ≤ 255) : withinC (boundC d n) c = true := by
  unfold boundC
  by_cases h : (d.live && hasC d n) = true
  · rw [if_pos h]
    simp only [Bool.and_eq_true] at h
    refine within_of fun _ => ⟨hg (live_tag h.1), hy, ?_, by rw [hp]; exact and_self' _ h0 h1⟩
    have hh := h.2
    simp only [hasC, Bool.and_eq_true, decide_eq_true_eq] at hh
    simp only
    omega
  · rw [if_neg h]
    exact within_of fun h => by cases h

theorem seal_cases (c k : CapV) : sealC c k = c.clear ∨ (c.live = true ∧ keyC k 32 = true ∧ k.at_ < 64 ∧ sealC c k = ⟨c.base, c.top, c.at_, c.perms, k.at_, true⟩) := by
  unfold sealC
  by_cases h : (c.live && (keyC k 32 && decide (k.at_ < 64))) = true
  · rw [if_pos h]
    simp only [Bool.and_eq_true, decide_eq_true_eq] at h
    exact .inr ⟨h.1, h.2.1, h.2.2, rfl⟩
  · rw [if_neg h]; exact .inl rfl
theorem bit64' (p : Int) (h0 : 0 ≤ p) (h1 : p ≤ 255) : (bits .and .i64 p 64 == 64) = !(bits .and .i64 p 64 == 0) := by
  rw [← and_both' p 64 h0 h1 (by omega) (by omega)]
  exact (bit64 ⟨p.toNat, by omega⟩).symm
/-- the key that sealed: what it is of the other kind -/
theorem key_other {k : CapV} (h : keyC k 32 = true) (h0 : 0 ≤ k.perms) (h1 : k.perms ≤ 255) : keyC k 64 = !(bits .and .i64 k.perms 64 == 0) := by
  rw [← bit64' _ h0 h1]
  unfold keyC at h ⊢
  simp only [Bool.and_eq_true] at h
  simp [h.1, h.2.1, h.2.2.2.1, h.2.2.2.2]
theorem key_tag {k : CapV} {p : Int} (h : keyC k p = true) : k.tag = true ∧ k.sealed = false := by
  unfold keyC at h
  simp only [Bool.and_eq_true, Bool.not_eq_true'] at h
  exact ⟨h.1, h.2.1⟩
theorem unseal_other (s k : CapV) (x : Int) (hx : x ≠ k.at_) (hs : s.ty = k.at_) (h0 : 0 ≤ k.at_) (h1 : k.at_ < 64) : unsealC s (moveC k x) = s.clear := by
  unfold unsealC
  rw [if_neg]
  simp only [Bool.and_eq_true, beq_iff_eq]
  rintro ⟨_, _, _, h⟩
  rw [hs, IntKind.wrap_u64] at h
  have : (moveC k x).at_ = x := rfl
  omega

theorem through_within {a b c : CapV} (ha0 : 0 ≤ a.perms) (ha1 : a.perms ≤ 255) (hb0 : 0 ≤ b.perms) (hb1 : b.perms ≤ 255) (hc0 : 0 ≤ c.perms) (hc1 : c.perms ≤ 255)
    (h1 : withinC a b = true) (h2 : withinC b c = true) (h3 : withinC a c = false) : ¬ b.base < b.top ∧ ¬ a.top ≤ a.base := by
  cases hg : a.tag
  · unfold withinC at h3; rw [hg] at h3; cases h3
  · have h1' := (within_iff hg).1 h1
    have h2' := (within_iff h1'.2.2.2).1 h2
    have h3' : ¬ (withinC a c = true) := by rw [h3]; exact Bool.false_ne_true
    rw [within_iff hg] at h3'
    have hp := and_over _ _ _ ha0 ha1 hb0 hb1 hc0 hc1 h1'.2.1 h2'.2.1
    constructor
    · intro hlt
      exact h3' ⟨fun hh => by have := h1'.1 hh; have := h2'.1 hlt; omega, hp, h1'.2.2.1.trans h2'.2.2.1, h2'.2.2.2⟩
    · intro hle
      exact h3' ⟨fun hh => by omega, hp, h1'.2.2.1.trans h2'.2.2.1, h2'.2.2.2⟩
theorem check_zero {c : CapV} {n p : Int} : checkC c n p = 0 ↔ c.tag = true ∧ c.sealed = false ∧ bits .and .i64 c.perms p = p ∧ hasC c n = true := by
  unfold checkC
  cases c.tag <;> cases c.sealed <;> by_cases h : bits .and .i64 c.perms p = p <;> cases hasC c n <;> simp [h]
theorem through_check {a b : CapV} {n p : Int} (ha0 : 0 ≤ a.perms) (ha1 : a.perms ≤ 255) (hb0 : 0 ≤ b.perms) (hb1 : b.perms ≤ 255) (hp0 : 0 ≤ p) (hp1 : p ≤ 255)
    (h1 : withinC a b = true) (h2 : checkC a n p = 0) (hn : 0 < n) : checkC (moveC b a.at_) n p = 0 := by
  obtain ⟨hg, hs, hq, hh⟩ := check_zero.1 h2
  have hw := (within_iff hg).1 h1
  simp only [hasC, Bool.and_eq_true, decide_eq_true_eq] at hh
  have hin := hw.1 (by omega)
  have hsb : b.sealed = false := by unfold CapV.sealed at hs ⊢; rw [← hw.2.2.1]; exact hs
  refine check_zero.2 ⟨?_, hsb, and_through _ _ _ ha0 ha1 hb0 hb1 hp0 hp1 hw.2.1 hq, ?_⟩
  · show b.live = true
    unfold CapV.live
    simp [hw.2.2.2, hsb]
  · have h1 : b.base ≤ a.at_ := by omega
    have h2 : a.at_ + n ≤ b.top := by omega
    show (decide (b.base ≤ a.at_) && (decide (n ≤ 18446744073709551615 - a.at_) && decide (a.at_ + n ≤ b.top))) = true
    rw [decide_eq_true h1, decide_eq_true hh.2.1, decide_eq_true h2]; rfl
end Go.Proofs.YtoijhhacgafblaaDoor
