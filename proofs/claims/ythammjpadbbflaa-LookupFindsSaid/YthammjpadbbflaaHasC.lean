/- The table of symbols, as plain lists: what each bucket and each chain holds behind a place. -/
import Derived.Test.YthammjpadbbflaaHasB
namespace Go.Proofs.Ythammjpadbbflaa
set_option linter.unusedVariables false
set_option linter.unusedSimpArgs false
open Go.Joins Go.ChangeShapes Go.WideShapes Go.ChangeAt Go.RowKit

/-- is a symbol shown, and of that bucket? -/
def inB (n b : Nat) (s : Sym) : Bool := shownB s && ofH s.name % n == b
/-- the number, from 1 on, of the first symbol of a bucket from a place on; 0: there is none -/
def nextN (l : List Sym) (n b i : Nat) : Nat := match (l.drop i).findIdx? (inB n b) with
  | some k => i + k + 1
  | none => 0
theorem nextN_end (l : List Sym) (n b i : Nat) (h : l.length ≤ i) : nextN l n b i = 0 := by
  unfold nextN; rw [List.drop_eq_nil_of_le h]; rfl
theorem nextN_hit (l : List Sym) (n b i : Nat) (h : i < l.length) (hb : inB n b l[i] = true) : nextN l n b i = i + 1 := by
  unfold nextN
  rw [List.drop_eq_getElem_cons h, List.findIdx?_cons, hb]
  rfl
theorem nextN_miss (l : List Sym) (n b i : Nat) (h : i < l.length) (hb : inB n b l[i] = false) : nextN l n b i = nextN l n b (i + 1) := by
  unfold nextN
  rw [List.drop_eq_getElem_cons h, List.findIdx?_cons, hb]
  simp only [Bool.false_eq_true, if_false]
  cases (l.drop (i + 1)).findIdx? (inB n b) with
  | none => rfl
  | some k => simp; omega
theorem nextN_le (l : List Sym) (n b i : Nat) : nextN l n b i ≤ l.length := by
  unfold nextN
  split
  · rename_i k hk
    have := (List.findIdx?_eq_some_iff_findIdx_eq.mp hk).1
    rw [List.length_drop] at this
    omega
  · omega
/-- what the buckets hold, and the chains, when all symbols from place i on are laid -/
def bucketsL (l : List Sym) (n i : Nat) : List Value := (List.range n).map fun b => .int .i64 ((nextN l n b i : Nat) : Int)
def chainN (l : List Sym) (n j : Nat) : Nat := match l[j]? with
  | some s => if shownB s = true then nextN l n (ofH s.name % n) (j + 1) else 0
  | none => 0
def chainL (l : List Sym) (n i : Nat) : List Value := (List.range l.length).map fun j => .int .i64 ((if i ≤ j then chainN l n j else 0 : Nat) : Int)
theorem bucketsL_len (l : List Sym) (n i : Nat) : (bucketsL l n i).length = n := by simp [bucketsL]
theorem chainL_len (l : List Sym) (n i : Nat) : (chainL l n i).length = l.length := by simp [chainL]
theorem bucketsL_start (l : List Sym) (n : Nat) : bucketsL l n l.length = List.replicate n (.int .i64 0) := by
  unfold bucketsL
  apply List.ext_getElem
  · simp
  · intro k h1 h2
    simp [nextN_end l n k l.length (Nat.le_refl _)]
theorem chainL_start (l : List Sym) (n : Nat) : chainL l n l.length = List.replicate l.length (.int .i64 0) := by
  unfold chainL
  apply List.ext_getElem
  · simp
  · intro k h1 h2
    have : ¬ l.length ≤ k := by simp at h1; omega
    simp [this]
theorem bucketsL_at (l : List Sym) (n i b : Nat) (h : b < n) : (bucketsL l n i)[b]? = some (.int .i64 ((nextN l n b i : Nat) : Int)) := by
  unfold bucketsL; rw [List.getElem?_map, List.getElem?_range h]; rfl
theorem chainL_at (l : List Sym) (n i j : Nat) (h : j < l.length) : (chainL l n i)[j]? = some (.int .i64 ((if i ≤ j then chainN l n j else 0 : Nat) : Int)) := by
  unfold chainL; rw [List.getElem?_map, List.getElem?_range h]; rfl
/-- a symbol that is not shown is laid nowhere -/
theorem lay_not (l : List Sym) (n i : Nat) (h : i < l.length) (hs : shownB l[i] = false) : bucketsL l n i = bucketsL l n (i + 1) ∧ chainL l n i = chainL l n (i + 1) := by
  constructor
  · unfold bucketsL
    refine List.map_congr_left fun b _ => ?_
    rw [nextN_miss l n b i h (by unfold inB; rw [hs]; rfl)]
  · unfold chainL
    refine List.map_congr_left fun j _ => ?_
    by_cases e : j = i
    · subst e
      have hc : chainN l n j = 0 := by unfold chainN; rw [List.getElem?_eq_getElem h]; simp only []; rw [if_neg (by rw [hs]; decide)]
      rw [if_pos (Nat.le_refl _), if_neg (by omega), hc]
    · by_cases hj : i ≤ j
      · rw [if_pos hj, if_pos (by omega)]
      · rw [if_neg hj, if_neg (by omega)]
/-- a symbol that is shown is put ahead of those of its bucket -/
theorem lay_yes (l : List Sym) (n i : Nat) (hn : 0 < n) (h : i < l.length) (hs : shownB l[i] = true) :
    bucketsL l n i = (bucketsL l n (i + 1)).set (ofH l[i].name % n) (.int .i64 ((i + 1 : Nat) : Int)) ∧
      chainL l n i = (chainL l n (i + 1)).set i (.int .i64 ((nextN l n (ofH l[i].name % n) (i + 1) : Nat) : Int)) := by
  constructor
  · apply List.ext_getElem?
    intro b
    by_cases hb : b < n
    · rw [bucketsL_at l n i b hb, List.getElem?_set]
      by_cases e : ofH l[i].name % n = b
      · rw [if_pos e, if_pos (by rw [bucketsL_len, e]; exact hb), nextN_hit l n b i h (by unfold inB; rw [hs, e]; simp)]
      · rw [if_neg e, bucketsL_at l n (i + 1) b hb, nextN_miss l n b i h (by unfold inB; rw [hs, Bool.true_and]; exact beq_false_of_ne e)]
    · rw [List.getElem?_eq_none (by rw [bucketsL_len]; omega), List.getElem?_eq_none (by rw [List.length_set, bucketsL_len]; omega)]
  · apply List.ext_getElem?
    intro j
    by_cases hj : j < l.length
    · rw [chainL_at l n i j hj, List.getElem?_set]
      by_cases e : i = j
      · subst e
        have hc : chainN l n i = nextN l n (ofH l[i].name % n) (i + 1) := by unfold chainN; rw [List.getElem?_eq_getElem h]; simp only []; rw [if_pos hs]
        rw [if_pos rfl, if_pos (Nat.le_refl _), if_pos (by rw [chainL_len]; exact h), hc]
      · rw [if_neg e, chainL_at l n (i + 1) j hj]
        by_cases hij : i ≤ j
        · rw [if_pos hij, if_pos (by omega)]
        · rw [if_neg hij, if_neg (by omega)]
    · rw [List.getElem?_eq_none (by rw [chainL_len]; omega), List.getElem?_eq_none (by rw [List.length_set, chainL_len]; omega)]
end Go.Proofs.Ythammjpadbbflaa
