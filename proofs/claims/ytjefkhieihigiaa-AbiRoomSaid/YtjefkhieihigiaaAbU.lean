/- What a program begins with: Build's answers, in plain mathematics. -/
import Derived.Test.YtjefkhieihigiaaAbT
namespace Go.Proofs.Ytjefkhieihigiaa
set_option linter.unusedVariables false
set_option linter.unusedSimpArgs false
open Go

theorem mapF_err (m : Mm) (f p : Int) (h : (mapF m f p).2 ≠ 0) : (mapF m f p).1 = m := by
  unfold mapF at h ⊢
  by_cases h1 : badP f p = true
  · rw [if_pos h1]
  · rw [if_neg h1] at h ⊢
    by_cases h2 : anyIn m f.toNat p.toNat = true
    · rw [if_pos h2]
    · rw [if_neg h2] at h ⊢
      by_cases h3 : m.bud < m.pgs.length + p.toNat
      · rw [if_pos h3]
      · rw [if_neg h3] at h
        exact absurd rfl h
/-- Build that fails leaves memory as it was, and says nothing -/
theorem build_fails (m : Mm) (f p : Int) (a e : List (List UInt8)) (k : List Cp) (h : (buildF m f p a e k).2.2 ≠ 0) : (buildF m f p a e k).1 = m ∧ (buildF m f p a e k).2.1 = noSt := by
  unfold buildF at h ⊢
  split
  · exact ⟨rfl, rfl⟩
  · split
    · exact ⟨rfl, rfl⟩
    · split
      · rename_i h3; exact ⟨mapF_err m f p h3, rfl⟩
      · rename_i h1 h2 h3
        rw [if_neg h1, if_neg h2, if_neg h3] at h
        exact absurd rfl h
theorem build_right (m : Mm) (f : Nat) (p : Int) (a e : List (List UInt8)) (k : List Cp) (h : (buildF m f p a e k).2.2 = 0) :
    ∃ x y : Nat, x = f * 256 ∧ (y : Int) = ((f : Int) + p) * 256 ∧ (f : Int) + p ≤ 65536 ∧ 1 ≤ p ∧ textsB a = true ∧ textsB e = true ∧ auxB k = true ∧ listN x a e + 32 * (a.length + 1) + 32 * (e.length + 1) + 32 * (k.length + 1) + 64 ≤ y ∧ x ≤ listN x a e ∧ (buildF m f p a e k).1 = layM (mapF m f p).1 x a e k ∧ (buildF m f p a e k).2.1 = startS x y a e k ∧ (mapF m f p).2 = 0 := by
  unfold buildF at h ⊢
  split at h
  · cases h
  · rename_i h1
    rw [if_neg h1]
    split at h
    · cases h
    · rename_i h2
      rw [if_neg h2]
      split at h
      · rename_i h3; exact absurd h h3
      · rename_i h3
        rw [if_neg h3]
        have hz : (mapF m f p).2 = 0 := by simpa using h3
        obtain ⟨o1, o2, o3⟩ := map_ok (m := m) (f := (f : Int)) (p := p) (by omega) hz
        simp only [Bool.not_eq_true', Bool.not_eq_false, Bool.and_eq_true, Bool.not_eq_eq_eq_not, Bool.not_true] at h1 h2
        have hr : roomB (needN a e k.length : Nat) p = true := by simpa using h2
        have hq : (textsB a && (textsB e && auxB k)) = true := by simpa using h1
        rw [Bool.and_eq_true, Bool.and_eq_true] at hq
        unfold roomB at hr
        rw [decide_eq_false (by omega), Bool.false_or, Bool.and_eq_true, decide_eq_true_eq, decide_eq_true_eq] at hr
        refine ⟨f * 256, ((f : Int) + p).toNat * 256, rfl, by omega, o3, o1, hq.1, hq.2.1, hq.2.2, ?_, ?_, by rw [Int.toNat_natCast], by rw [Int.toNat_natCast], hz⟩
        · unfold listN
          rw [Nat.add_assoc (f * 256), up_add]
          unfold needN at hr
          omega
        · unfold listN upN; omega
end Go.Proofs.Ytjefkhieihigiaa
