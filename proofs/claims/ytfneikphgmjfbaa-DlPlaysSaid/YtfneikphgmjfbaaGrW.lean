/- GraphCloses: its walk. -/
import Derived.Test.YtfneikphgmjfbaaGrV
namespace Go.Proofs.Ytfneikphgmjfbaa
set_option linter.unusedVariables false
set_option linter.unusedSimpArgs false
open Go.Joins Go.ChangeShapes Go.WideShapes Go.ChangeAt Go.RowKit

def RM (l : List Obj) (z : Int) (k : Nat) : Prop := ∃ s : Nat, z = (s : Int) ∧ s < l.length ∧ RE l s k
def RZ (w : World) (l : List Obj) (z : Int) (e : Ending) (w' : World) : Prop :=
  ∃ a' c' o, e = .returned (.slice a' o.length c') ∧ Rd w' a' o.length (i64s (ordZ o)) ∧ o.Pairwise (· < ·) ∧ (∀ k, k ∈ o ↔ RM l z k) ∧ Below w.heap.size w w'
theorem rm_none {l : List Obj} {z : Int} (h : z < 0 ∨ (l.length : Int) ≤ z) (k : Nat) : k ∈ ([] : List Nat) ↔ RM l z k :=
  ⟨fun hk => absurd hk (by simp), fun ⟨s, h1, h2, _⟩ => by omega⟩
theorem rm_some {l : List Obj} {s : Nat} (h : s < l.length) (k : Nat) : RE l s k ↔ RM l (s : Int) k := by
  constructor
  · exact fun hk => ⟨s, rfl, h, hk⟩
  · rintro ⟨s', h1, _, h3⟩
    obtain rfl : s = s' := by omega
    exact h3
theorem rz_none {l : List Obj} {z : Int} {w w' : World} {c : Nat} (h : z < 0 ∨ (l.length : Int) ≤ z) (hb : Below w.heap.size w w') : RZ w l z (.returned (.slice none 0 0)) w' :=
  ⟨none, 0, [], rfl, Rd.nil _ _, List.Pairwise.nil, rm_none h, hb⟩
theorem reachZ (a : Option Addr) (l : List Obj) (c : Nat) (z : Int) (w : World) (hl : RdO w a l) (hm : l.length ≤ 1000000) (hnm : Named l) :
    Calls Try.prog 53 #[.slice a l.length c, .int .i64 z] w (RZ w l z) := by
  by_cases h0 : z < 0
  · have H := Lib.hid (rz_none (l := l) (w := w) (w' := w) (c := c) (Or.inl h0) (Below.refl _ _))
    clear hl hnm
    generalize l.length = m at *
    go_enter Try.func53, Try.ntmps53
    go_wp2_with fail
    go_ret
    exact H.out
  · by_cases h1 : (l.length : Int) ≤ z
    · have H := Lib.hid (rz_none (l := l) (w := w) (w' := w) (c := c) (Or.inr h1) (Below.refl _ _))
      clear hl hnm
      generalize l.length = m at *
      go_enter Try.func53, Try.ntmps53
      go_wp2_with fail
      go_ret
      exact H.out
    · obtain ⟨s, rfl⟩ : ∃ s : Nat, z = (s : Int) := ⟨z.toNat, by omega⟩
      have hs : s < l.length := by omega
      refine (reach_any a l c s w hl hm hnm hs).mono ?_
      rintro e w' ⟨a', c', o, rfl, hr, hO, hmem, hsort, hb⟩
      exact ⟨a', c', o, rfl, hr, rising_of hO hsort, fun k => (hmem k).trans (rm_some hs k), hb⟩
theorem rreachZ (a : Option Addr) (l : List Obj) (c : Nat) (z : Int) (w : World) (hl : RdO w a l) (hm : l.length ≤ 1000000) (hnm : Named l) :
    Calls Try.prog 26 #[.slice a l.length c, .int .i64 z] w (RZ w l z) := by
  by_cases h0 : z < 0
  · have H := Lib.hid (rz_none (l := l) (w := w) (w' := w) (c := c) (Or.inl h0) (Below.refl _ _))
    clear hl hnm
    generalize l.length = m at *
    go_enter Try.func26, Try.ntmps26
    go_wp2_with fail
    go_ret
    exact H.out
  · by_cases h1 : (l.length : Int) ≤ z
    · have H := Lib.hid (rz_none (l := l) (w := w) (w' := w) (c := c) (Or.inr h1) (Below.refl _ _))
      clear hl hnm
      generalize l.length = m at *
      go_enter Try.func26, Try.ntmps26
      go_wp2_with fail
      go_ret
      exact H.out
    · obtain ⟨s, rfl⟩ : ∃ s : Nat, z = (s : Int) := ⟨z.toNat, by omega⟩
      have hs : s < l.length := by omega
      refine (rreach_any a l c s w hl hm hnm hs).mono ?_
      rintro e w' ⟨a', c', o, rfl, hr, hO, hmem, hb⟩
      exact ⟨a', c', o, rfl, hr, hO, fun k => (hmem k).trans (rm_some hs k), hb⟩
/-- what Closure leaves, as one slice, one text, one number -/
theorem clos_same {w w' w2 w2' : World} {l : List Obj} {root : List UInt8} {e e2 : Ending} (h : ClosPost w l root e w') (h2 : ClosPost w2 l root e2 w2') :
    ∃ a c a2 c2 o n x, e = .returned (.tuple #[.slice a o.length c, .string ⟨n⟩, .int .i64 x]) ∧ e2 = .returned (.tuple #[.slice a2 o.length c2, .string ⟨n⟩, .int .i64 x]) ∧ Rd w' a o.length (i64s (ordZ o)) ∧ Rd w2' a2 o.length (i64s (ordZ o)) := by
  obtain ⟨-, h⟩ := h
  obtain ⟨-, h2⟩ := h2
  cases hcr : closR l root with
  | inl o =>
    rw [hcr] at h h2
    obtain ⟨a, c, rfl, hr⟩ := h
    obtain ⟨a2, c2, rfl, hr2⟩ := h2
    exact ⟨a, c, a2, c2, o, _, _, rfl, rfl, hr, hr2⟩
  | inr n =>
    rw [hcr] at h h2
    exact ⟨none, 0, none, 0, [], _, _, h, h2, Rd.nil _ _, Rd.nil _ _⟩
theorem clos_len {w w' : World} {l : List Obj} {root : List UInt8} {e : Ending} (h : ClosPost w l root e w') : ∃ a c o n x, e = .returned (.tuple #[.slice a o.length c, .string ⟨n⟩, .int .i64 x]) ∧ Rd w' a o.length (i64s (ordZ o)) ∧ (o = [] ∨ closR l root = .inl o) := by
  obtain ⟨-, h⟩ := h
  cases hcr : closR l root with
  | inl o =>
    rw [hcr] at h
    obtain ⟨a, c, rfl, hr⟩ := h
    exact ⟨a, c, o, _, _, rfl, hr, Or.inr rfl⟩
  | inr n =>
    rw [hcr] at h
    exact ⟨none, 0, [], _, _, h, Rd.nil _ _, Or.inl rfl⟩
def closO (l : List Obj) (root : List UInt8) : List Nat := match closR l root with
  | .inl o => o
  | .inr _ => []
def closN (l : List Obj) (root : List UInt8) : List UInt8 := match closR l root with
  | .inl _ => []
  | .inr n => n
def closE (l : List Obj) (root : List UInt8) : Int := match closR l root with
  | .inl _ => 0
  | .inr _ => 130
theorem clos_vals {w w' : World} {l : List Obj} {root : List UInt8} {e : Ending} (h : ClosPost w l root e w') : ∃ a c, e = .returned (.tuple #[.slice a (closO l root).length c, .string ⟨(closN l root).toArray⟩, .int .i64 (closE l root)]) ∧ Rd w' a (closO l root).length (i64s (ordZ (closO l root))) ∧ Below w.heap.size w w' := by
  obtain ⟨hb, h⟩ := h
  unfold closO closN closE
  cases hcr : closR l root with
  | inl o =>
    rw [hcr] at h
    obtain ⟨a, c, rfl, hr⟩ := h
    exact ⟨a, c, rfl, hr, hb⟩
  | inr n =>
    rw [hcr] at h
    exact ⟨none, 0, h, Rd.nil _ _, hb⟩
theorem closO_le (l : List Obj) (root : List UInt8) : (closO l root).length ≤ l.length := by
  unfold closO
  cases hcr : closR l root with
  | inl o =>
    obtain ⟨s, -, -, hO, -⟩ := closR_RE hcr
    exact hO.le
  | inr n => exact Nat.zero_le _
end Go.Proofs.Ytfneikphgmjfbaa
