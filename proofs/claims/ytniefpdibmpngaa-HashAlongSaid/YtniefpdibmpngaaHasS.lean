/- Along the chains: plain mathematics, and HashAlong's walk. -/
import Derived.Test.YtniefpdibmpngaaHasQ
import Derived.Outline
namespace Go.Proofs.Ytniefpdibmpngaa
set_option linter.unusedVariables false
set_option linter.unusedSimpArgs false
open Go.Joins Go.ChangeShapes Go.WideShapes Go.ChangeAt Go.RowKit

/-- how many symbols of a bucket there are from place p on -/
def cntB (l : List Sym) (n b p : Nat) : Nat := (l.drop p).countP (inB n b)
theorem next_zero (l : List Sym) (n b p : Nat) (h : nextN l n b p = 0) : cntB l n b p = 0 := by
  unfold nextN at h
  unfold cntB
  split at h
  · omega
  · rename_i hn
    rw [List.countP_eq_zero]
    rw [List.findIdx?_eq_none_iff] at hn
    intro x hx
    rw [hn x hx]; decide
theorem next_some (l : List Sym) (n b p k : Nat) (h : nextN l n b p = k + 1) : ∃ hk : k < l.length, p ≤ k ∧ inB n b l[k] = true ∧ cntB l n b p = cntB l n b (k + 1) + 1 := by
  have step : ∀ d p, l.length - p = d → nextN l n b p = k + 1 → ∃ hk : k < l.length, p ≤ k ∧ inB n b l[k] = true ∧ cntB l n b p = cntB l n b (k + 1) + 1 := by
    intro d
    induction d with
    | zero =>
      intro p hd hx
      rw [nextN_end l n b p (by omega)] at hx; omega
    | succ d ih =>
      intro p hd hx
      have hp : p < l.length := by omega
      by_cases hb : inB n b l[p] = true
      · rw [nextN_hit l n b p hp hb] at hx
        obtain rfl : k = p := by omega
        refine ⟨hp, Nat.le_refl _, hb, ?_⟩
        unfold cntB
        rw [List.drop_eq_getElem_cons hp, List.countP_cons, hb]; rfl
      · rw [Bool.not_eq_true] at hb
        rw [nextN_miss l n b p hp hb] at hx
        obtain ⟨hk, hle, hi, hc⟩ := ih (p + 1) (by omega) hx
        refine ⟨hk, by omega, hi, ?_⟩
        rw [← hc]
        unfold cntB
        rw [List.drop_eq_getElem_cons hp, List.countP_cons, hb]; simp
  exact step _ p rfl h
theorem next_far (l : List Sym) (n b p : Nat) : nextN l n b p = 0 ∨ p < nextN l n b p := by
  rcases Nat.eq_zero_or_pos (nextN l n b p) with h | h
  · exact Or.inl h
  · obtain ⟨k, hk⟩ : ∃ k, nextN l n b p = k + 1 := ⟨nextN l n b p - 1, by omega⟩
    obtain ⟨_, hle, _⟩ := next_some l n b p k hk
    omega
/-- how many symbols of the first b buckets there are -/
def totB (l : List Sym) (n : Nat) : Nat → Nat
  | 0 => 0
  | b + 1 => totB l n b + cntB l n b 0
theorem totB_mono (l : List Sym) (n : Nat) {a b : Nat} (h : a ≤ b) : totB l n a ≤ totB l n b := by
  induction b with
  | zero => obtain rfl : a = 0 := by omega
            exact Nat.le_refl _
  | succ b ih =>
    rcases Nat.eq_or_lt_of_le h with rfl | h
    · exact Nat.le_refl _
    · have := ih (by omega); simp only [totB]; omega
def totL (n : Nat) (s : Sym) : Nat → Nat
  | 0 => 0
  | b + 1 => totL n s b + if inB n b s = true then 1 else 0
theorem totL_eq (n : Nat) (s : Sym) (b : Nat) : totL n s b = if shownB s = true ∧ ofH s.name % n < b then 1 else 0 := by
  induction b with
  | zero => simp [totL]
  | succ b ih =>
    simp only [totL, ih, inB, Bool.and_eq_true, beq_iff_eq]
    by_cases hs : shownB s = true
    · simp only [hs, true_and]
      by_cases h1 : ofH s.name % n < b
      · rw [if_pos h1, if_neg (by omega), if_pos (by omega)]
      · by_cases h2 : ofH s.name % n = b
        · rw [if_neg h1, if_pos h2, if_pos (by omega)]
        · rw [if_neg h1, if_neg h2, if_neg (by omega)]
    · simp [hs]
theorem totB_cons (s : Sym) (l : List Sym) (n b : Nat) : totB (s :: l) n b = totB l n b + totL n s b := by
  induction b with
  | zero => rfl
  | succ b ih =>
    simp only [totB, totL, ih, cntB, List.drop_zero, List.countP_cons]
    omega
theorem totB_all (l : List Sym) (n : Nat) (hn : 0 < n) : totB l n n = l.countP shownB := by
  induction l with
  | nil =>
    have : ∀ b, totB [] n b = 0 := by
      intro b
      induction b with
      | zero => rfl
      | succ b ih => simp [totB, ih, cntB]
    rw [this]; rfl
  | cons s l ih =>
    rw [totB_cons, ih, totL_eq, List.countP_cons]
    have := Nat.mod_lt (ofH s.name) hn
    by_cases hs : shownB s = true
    · rw [if_pos ⟨hs, this⟩, hs]; rfl
    · rw [if_neg (fun h => hs h.1), if_neg hs]
end Go.Proofs.Ytniefpdibmpngaa
