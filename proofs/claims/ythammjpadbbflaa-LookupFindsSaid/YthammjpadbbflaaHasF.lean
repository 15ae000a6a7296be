/- The document's Buckets and Chain: contracts. -/
import Derived.Test.YthammjpadbbflaaHasE
import Derived.Test.YthammjpadbbflaaHasN
import Derived.OwnWalk
import Derived.Laws.OwnMore
import Derived.Maps.AppendAt
namespace Go.Proofs.Ythammjpadbbflaa
set_option linter.unusedVariables false
set_option linter.unusedSimpArgs false
open Go.Joins Go.ChangeShapes Go.WideShapes Go.ChangeAt Go.RowKit

theorem infoInt : (Try.prog.info? 3).map (fun i => (i.zero, i.size, i.bytes)) = some (some (.int .i64 0), 1, 8) := by kernel_rfl
/-- the first k buckets' numbers, and the first k chains' -/
def bucketsZ (l : List Sym) (n k : Nat) : List Int := (List.range k).map fun b => ((nextN l n b 0 : Nat) : Int)
def chainZ (l : List Sym) (n k : Nat) : List Int := (List.range k).map fun j => ((chainN l n j : Nat) : Int)
theorem bucketsZ_len (l : List Sym) (n k : Nat) : (bucketsZ l n k).length = k := by simp [bucketsZ]
theorem chainZ_len (l : List Sym) (n k : Nat) : (chainZ l n k).length = k := by simp [chainZ]
theorem bucketsZ_snoc (l : List Sym) (n k : Nat) : i64s (bucketsZ l n (k + 1)) = i64s (bucketsZ l n k) ++ [.int .i64 ((nextN l n k 0 : Nat) : Int)] := by simp [bucketsZ, i64s, List.range_succ]
theorem chainZ_snoc (l : List Sym) (n k : Nat) : i64s (chainZ l n (k + 1)) = i64s (chainZ l n k) ++ [.int .i64 ((chainN l n k : Nat) : Int)] := by simp [chainZ, i64s, List.range_succ]
theorem bucketsL_z (l : List Sym) (n : Nat) : bucketsL l n 0 = i64s (bucketsZ l n n) := by simp [bucketsL, bucketsZ, i64s]
theorem chainL_z (l : List Sym) (n : Nat) : chainL l n 0 = i64s (chainZ l n l.length) := by simp [chainL, chainZ, i64s]

theorem own_below {w w' : World} {base : Nat} {e : TypeId} {size n : Nat} {v : Value} {xs : List Value} (h : w.ownsRow base e size v n xs) (hb : Below w.heap.size w w') : w'.ownsRow base e size v n xs := by
  obtain ⟨h1, h2⟩ := h
  refine ⟨h1, ?_⟩
  rcases h2 with h2 | ⟨g, cap, cur, hv, hg, hh, r⟩
  · exact Or.inl h2
  · refine Or.inr ⟨g, cap, cur, hv, hg, ?_, r⟩
    have hlt : g < w.heap.size := by
      rcases Nat.lt_or_ge g w.heap.size with h | h
      · exact h
      · rw [Array.getElem?_eq_none h] at hh; cases hh
    rw [hb.block g hlt]; exact hh
theorem chainN_yes (l : List Sym) (n k : Nat) (h : k < l.length) (hs : shownB l[k] = true) : chainN l n k = nextN l n (ofH l[k].name % n) (k + 1) := by
  unfold chainN; rw [List.getElem?_eq_getElem h]; simp only []; rw [if_pos hs]
theorem chainN_no (l : List Sym) (n k : Nat) (h : k < l.length) (hs : shownB l[k] = false) : chainN l n k = 0 := by
  unfold chainN; rw [List.getElem?_eq_getElem h]; simp only []; rw [if_neg (by rw [hs]; decide)]
theorem wrap_mod_ (q n : Nat) (hn : 0 < n) (hn2 : n < 4294967296) : wrap64 ((q : Int) % (n : Int)) = ((q % n : Nat) : Int) := by
  have h1 : ((q : Int) % (n : Int)) = ((q % n : Nat) : Int) := by simp
  have h2 := Nat.mod_lt q hn
  rw [h1]
  unfold wrap64
  omega
end Go.Proofs.Ythammjpadbbflaa
