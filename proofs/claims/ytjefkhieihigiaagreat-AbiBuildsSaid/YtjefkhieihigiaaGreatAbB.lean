/- Ranges over a string: a rune is 0 just where a byte is. -/
import Derived.Lib.OthersKept
import Derived.Laws.RangeAny
import Derived.Test.YtjefkhieihigiaaGreatAbA
namespace Go.Proofs.YtjefkhieihigiaaGreat
set_option linter.unusedVariables false
set_option linter.unusedSimpArgs false
open Go

theorem dec_k1 (s : ByteArray) (i : Nat) : 1 < (Utf8.decode s i).2 → (s.get! (i + 1)).toNat / 64 = 2 := by
  simp only [Utf8.decode]
  repeat' split
  all_goals simp_all
theorem dec_k2 (s : ByteArray) (i : Nat) : 2 < (Utf8.decode s i).2 → (s.get! (i + 2)).toNat / 64 = 2 := by
  simp only [Utf8.decode]
  repeat' split
  all_goals simp_all
theorem dec_k3 (s : ByteArray) (i : Nat) : 3 < (Utf8.decode s i).2 → (s.get! (i + 3)).toNat / 64 = 2 := by
  simp only [Utf8.decode]
  repeat' split
  all_goals simp_all
theorem dec_w (s : ByteArray) (i : Nat) : (Utf8.decode s i).2 ≤ 4 := by
  simp only [Utf8.decode]
  repeat' split
  all_goals simp
theorem dec_mid (s : ByteArray) (i j : Nat) (h1 : i < j) (h2 : j < i + (Utf8.decode s i).2) : (s.get! j).toNat ≠ 0 := by
  have h4 := dec_w s i
  rcases (show j = i + 1 ∨ j = i + 2 ∨ j = i + 3 by omega) with e | e | e
  · have := dec_k1 s i (by omega); subst e; omega
  · have := dec_k2 s i (by omega); subst e; omega
  · have := dec_k3 s i (by omega); subst e; omega
theorem get_list (s : List UInt8) (j : Nat) (h : j < s.length) : (ByteArray.mk s.toArray).get! j = s[j] := by
  show (s.toArray)[j]! = s[j]
  simp [h]
/-- no byte is 0 ahead of j -/
def noZ (s : List UInt8) (j : Nat) : Prop := ∀ i (h : i < s.length), i < j → s[i] ≠ 0
theorem dec_next (s : List UInt8) (p : Nat) (h : p < s.length) : 1 ≤ (Utf8.decode ⟨s.toArray⟩ p).2 ∧ ((Utf8.decode ⟨s.toArray⟩ p).1 = 0 ↔ s[p] = 0) ∧ (noZ s p → s[p] ≠ 0 → noZ s (p + (Utf8.decode ⟨s.toArray⟩ p).2)) := by
  have hb : p < (ByteArray.mk s.toArray).size := h
  have hg : (ByteArray.mk s.toArray)[p]'hb = s[p] := rfl
  refine ⟨?_, ?_, fun h1 h2 i hi hip => ?_⟩
  · by_cases ha : s[p].toNat < 128
    · rw [decode_ascii _ p hb (by rw [hg]; exact ha)]; exact Nat.le_refl _
    · exact (decode_high _ p hb (by rw [hg]; omega)).2
  · by_cases ha : s[p].toNat < 128
    · rw [decode_ascii _ p hb (by rw [hg]; exact ha)]
      show ((ByteArray.mk s.toArray)[p]'hb).toNat = 0 ↔ _
      rw [hg]
      exact ⟨fun e => UInt8.toNat_inj.1 e, fun e => by rw [e]; rfl⟩
    · have h1 := (decode_high _ p hb (by rw [hg]; omega)).1
      constructor
      · intro e; omega
      · intro e; rw [e] at ha; exact absurd (by decide) ha
  · rcases Nat.lt_trichotomy i p with q | q | q
    · exact h1 i hi q
    · subst q; exact h2
    · have h3 := dec_mid ⟨s.toArray⟩ p i q hip
      rw [get_list s i hi] at h3
      intro e; rw [e] at h3; exact h3 rfl
theorem anyZ_yes {s : List UInt8} {p : Nat} (h : p < s.length) (h0 : s[p] = 0) : s.any (· == 0) = true := by
  rw [List.any_eq_true]; exact ⟨s[p], List.getElem_mem h, by rw [h0]; rfl⟩
theorem anyZ_no {s : List UInt8} {p : Nat} (h : s.length ≤ p) (hn : noZ s p) : s.any (· == 0) = false := by
  rw [Bool.eq_false_iff, Ne, List.any_eq_true]
  rintro ⟨c, hc, e⟩
  obtain ⟨i, hi, rfl⟩ := List.getElem_of_mem hc
  exact hn i hi (by omega) (by simpa using e)
end Go.Proofs.YtjefkhieihigiaaGreat
