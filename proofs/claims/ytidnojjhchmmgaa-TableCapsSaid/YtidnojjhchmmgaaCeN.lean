/- The reader's lists: contracts. -/
import Derived.Test.YtidnojjhchmmgaaCeM
import Derived.Test.YtidnojjhchmmgaaCeS
namespace Go.Proofs.Ytidnojjhchmmgaa
set_option linter.unusedVariables false
set_option linter.unusedSimpArgs false
open Go.Joins Go.ChangeShapes Go.WideShapes Go.ChangeAt Go.RowKit Go.Deep

def listP {α : Type} (one : St → α × St) : Nat → St → List α × St
  | 0, s => ([], s)
  | n + 1, s => if s.wrong = 0 then ((one s).1 :: (listP one n (one s).2).1, (listP one n (one s).2).2) else ([], s)
theorem listP_wrong {α : Type} (one : St → α × St) (n : Nat) (s : St) (h : s.wrong ≠ 0) : listP one n s = ([], s) := by
  cases n with
  | zero => rfl
  | succ n => unfold listP; rw [if_neg h]
theorem listP_step {α : Type} {one : St → α × St} {n : Nat} {s : St} (h : s.wrong = 0) {x : α} {s1 : St} (hx : one s = (x, s1)) : listP one (n + 1) s = (x :: (listP one n s1).1, (listP one n s1).2) := by
  rw [listP, if_pos h, hx]
def listH {α : Type} (one : St → α × St) (s : St) : List α × St := listP one (numP 2 s).1 (numP 2 s).2
theorem own_kp {w w' : World} {R B k n : Nat} {e : TypeId} {v : Value} {xs : List Value} (h : w.ownsRow B e k v n xs) (hk : KP w.heap.size (· = R) w w') (hB : R < B) : w'.ownsRow B e k v n xs :=
  h.kept (row := some R) ⟨hk.os, hk.tape, hk.output, hk.size, fun b hb hne => hk.block b hb (fun q => hne (by rw [q]))⟩ (Or.inr (fun e => by have := (h.lt R e).1; omega))
theorem own_rd {w : World} {B k n c : Nat} {e : TypeId} {a : Option Addr} {xs : List Value} (h : w.ownsRow B e k (.slice a n c) n xs) : Rd w a (n * k) xs := by
  refine ⟨h.1, fun hn => ?_⟩
  rcases h.2 with ⟨e, h0⟩ | ⟨g, cap, cur, hv, _, hg, hnc, _, hs, htake⟩
  · subst h0; simp at hn
  · cases hv
    refine ⟨g, 0, rfl, (Array.getElem?_eq_some_iff.1 hg).1, fun j hj => ?_⟩
    rw [Nat.zero_add]
    exact h.cellAt j hj
theorem txs_snoc (xs : List (List UInt8)) (x : List UInt8) : txs (xs ++ [x]) = txs xs ++ [.string ⟨x.toArray⟩] := by simp [txs, strV]
theorem i64s_snoc (xs : List Int) (x : Int) : i64s (xs ++ [x]) = i64s xs ++ [.int .i64 x] := by simp [i64s]
theorem symsC_snoc (xs : List Sym) (x : Sym) : symsC (xs ++ [x]) = symsC xs ++ symC x := by simp [symsC]
theorem relsC_snoc (xs : List Rel) (x : Rel) : relsC (xs ++ [x]) = relsC xs ++ relC x := by simp [relsC]
theorem segsC_snoc (xs : List Seg) (x : Seg) : segsC (xs ++ [x]) = segsC xs ++ segC x := by simp [segsC]
def halfP (s : St) : Int × St := (((numP 2 s).1 : Int), (numP 2 s).2)
def coreG (g : Seg) : Int × Int × Int × List UInt8 := (g.place, g.size, g.flags, g.bytes)
theorem segP_rest (s : St) : (segP s).2.rest.length ≤ s.rest.length := by
  unfold segP numP
  simp only []
  exact Nat.le_trans (takeP_rest _ _) (Nat.le_trans (takeP_rest _ _) (Nat.le_trans (takeP_rest _ _) (Nat.le_trans (takeP_rest _ _) (takeP_rest _ _))))
end Go.Proofs.Ytidnojjhchmmgaa
