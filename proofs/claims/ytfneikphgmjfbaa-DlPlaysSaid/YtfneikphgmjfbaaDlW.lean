/- The document's Close: what it makes, in a box; what is told of it. -/
import Derived.Test.YtfneikphgmjfbaaDlV
import Derived.Deep.RegionLaw
namespace Go.Proofs.Ytfneikphgmjfbaa
set_option linter.unusedVariables false
set_option linter.unusedSimpArgs false
open Go.Joins Go.ChangeShapes Go.WideShapes Go.ChangeAt Go.RowKit Go.Deep

/-- where a call stands while it makes the next state, in the first block behind w0 -/
structure NewAt (w0 W : World) (v1 v2 : Value) (n1 n2 : Nat) (x1 x2 : List Int) : Prop where
  bx : BoxS W w0.heap.size v1 v2
  own : OwnSt (w0.heap.size + 1) W v1 v2 n1 n2 x1 x2
  bel : Below w0.heap.size w0 W
theorem NewAt.start (w0 : World) (t : TypeId) : NewAt w0 (w0.alloc (.cells #[.slice none 0 0, .slice none 0 0] t)) (.slice none 0 0) (.slice none 0 0) 0 0 [] [] :=
  ⟨BoxS.new _ _ _ _, ⟨World.ownsRow_nil _ _ _ _, World.ownsRow_nil _ _ _ _, fun g h => by cases h⟩, bAlloc (Below.refl _ _) _⟩
theorem NewAt.below {w0 W W' : World} {v1 v2 : Value} {n1 n2 : Nat} {x1 x2 : List Int} (h : NewAt w0 W v1 v2 n1 n2 x1 x2) (hb : Below W.heap.size W W') : NewAt w0 W' v1 v2 n1 n2 x1 x2 :=
  ⟨h.bx.below hb, h.own.below hb, bTrans h.bel hb⟩
theorem NewAt.lt {w0 W : World} {v1 v2 : Value} {n1 n2 : Nat} {x1 x2 : List Int} (h : NewAt w0 W v1 v2 n1 n2 x1 x2) : w0.heap.size + 1 ≤ W.heap.size := h.bx.cells.2.2.2.1
theorem own_ne {W : World} {B : Nat} {v : Value} {n : Nat} {xs : List Value} (h : W.ownsRow (B + 1) 3 1 v n xs) : v.ownBlock ≠ some B := fun e => by
  have := (h.lt _ e).1
  omega
theorem NewAt.app1 {w0 W W' : World} {v1 v2 v : Value} {n1 n2 n : Nat} {x1 x2 x : List Int} (h : NewAt w0 W v1 v2 n1 n2 x1 x2) (hgr : W.grownBy W' v1.ownBlock) (ho : W'.ownsRow (w0.heap.size + 1) 3 1 v n (i64s x)) (hat : v.ownBlock = v1.ownBlock ∨ v.ownBlock = some W.heap.size) :
    NewAt w0 (W'.setCell ⟨w0.heap.size, 0, none⟩ v) v v2 n n2 x x2 := by
  refine ⟨(h.bx.grown hgr (own_ne h.own.1)).set0 v, ⟨?_, ?_, fun g hg h2 => ?_⟩, (grownB h.bel hgr (fun q hq => by have := (h.own.1.lt q hq).1; omega)).setCell (p := ⟨w0.heap.size, 0, none⟩) (Nat.le_refl _) _⟩
  · exact own_kept_block ho fun g hg => Below.heap_setCell _ _ _ _ (by show g ≠ w0.heap.size; omega)
  · exact own_kept_block (kept_ne h.own.2.1 hgr h.own.2.2) fun g hg => Below.heap_setCell _ _ _ _ (by show g ≠ w0.heap.size; omega)
  · rcases hat with e | e
    · exact h.own.2.2 g (e ▸ hg) h2
    · rw [e] at hg; cases hg; have := (h.own.2.1.lt _ h2).2; omega
theorem NewAt.app2 {w0 W W' : World} {v1 v2 v : Value} {n1 n2 n : Nat} {x1 x2 x : List Int} (h : NewAt w0 W v1 v2 n1 n2 x1 x2) (hgr : W.grownBy W' v2.ownBlock) (ho : W'.ownsRow (w0.heap.size + 1) 3 1 v n (i64s x)) (hat : v.ownBlock = v2.ownBlock ∨ v.ownBlock = some W.heap.size) :
    NewAt w0 (W'.setCell ⟨w0.heap.size, 1, none⟩ v) v1 v n1 n x1 x := by
  refine ⟨(h.bx.grown hgr (own_ne h.own.2.1)).set1 v, ⟨?_, ?_, fun g hg h2 => ?_⟩, (grownB h.bel hgr (fun q hq => by have := (h.own.2.1.lt q hq).1; omega)).setCell (p := ⟨w0.heap.size, 1, none⟩) (Nat.le_refl _) _⟩
  · exact own_kept_block (kept_ne h.own.1 hgr fun g hg hg2 => h.own.2.2 g hg2 hg) fun g hg => Below.heap_setCell _ _ _ _ (by show g ≠ w0.heap.size; omega)
  · exact own_kept_block ho fun g hg => Below.heap_setCell _ _ _ _ (by show g ≠ w0.heap.size; omega)
  · rcases hat with e | e
    · exact h.own.2.2 g hg (e ▸ h2)
    · rw [e] at h2; cases h2; have := (h.own.1.lt _ hg).2; omega
theorem NewAt.keep1 {w0 W W1 W' : World} {v1 v2 : Value} {n1 n2 : Nat} {x1 x2 : List Int} (h : NewAt w0 W v1 v2 n1 n2 x1 x2) (hb : Below W.heap.size W W1) (hgr : W1.grownBy W' v1.ownBlock) : W'.cell? ⟨w0.heap.size, 0, none⟩ = some v1 ∧ W'.frozen? ⟨w0.heap.size, 0, none⟩ = false :=
  have k := ((h.below hb).bx.grown hgr (own_ne h.own.1)).cells
  ⟨k.1, k.2.2.1 0⟩
theorem NewAt.keep2 {w0 W W1 W' : World} {v1 v2 : Value} {n1 n2 : Nat} {x1 x2 : List Int} (h : NewAt w0 W v1 v2 n1 n2 x1 x2) (hb : Below W.heap.size W W1) (hgr : W1.grownBy W' v2.ownBlock) : W'.cell? ⟨w0.heap.size, 1, none⟩ = some v2 ∧ W'.frozen? ⟨w0.heap.size, 1, none⟩ = false :=
  have k := ((h.below hb).bx.grown hgr (own_ne h.own.2.1)).cells
  ⟨k.2.1, k.2.2.1 1⟩
/-- what ended, in a row of its own -/
def EndR (w0 W : World) (v1 v : Value) (n : Nat) (x : List Int) : Prop := W.ownsRow (w0.heap.size + 1) 3 1 v n (i64s x) ∧ ∀ g, v.ownBlock = some g → v1.ownBlock ≠ some g
theorem EndR.app1 {w0 W W' : World} {v1 v e : Value} {n : Nat} {x : List Int} (h : EndR w0 W v1 e n x) (hgr : W.grownBy W' v1.ownBlock) (hat : v.ownBlock = v1.ownBlock ∨ v.ownBlock = some W.heap.size) (u : Value) :
    EndR w0 (W'.setCell ⟨w0.heap.size, 0, none⟩ u) v e n x := by
  refine ⟨own_kept_block (kept_ne h.1 hgr fun g hg hg2 => h.2 g hg2 hg) fun g hg => Below.heap_setCell _ _ _ _ (by show g ≠ w0.heap.size; omega), fun g hg h2 => ?_⟩
  rcases hat with q | q
  · exact h.2 g hg (q ▸ h2)
  · rw [q] at h2; cases h2; have := (h.1.lt _ hg).2; omega
theorem EndR.below {w0 W W' : World} {v1 e : Value} {n : Nat} {x : List Int} (h : EndR w0 W v1 e n x) (hb : Below W.heap.size W W') : EndR w0 W' v1 e n x := ⟨own_below h.1 hb, h.2⟩
theorem EndR.new {w0 W W' : World} {v1 v2 v : Value} {n1 n2 n : Nat} {x1 x2 x : List Int} (h : NewAt w0 W v1 v2 n1 n2 x1 x2) (ho : W'.ownsRow W.heap.size 3 1 v n (i64s x)) : EndR w0 W' v1 v n x :=
  ⟨ho.mono h.lt, fun g hg h2 => by
    have a := (ho.lt g hg).1
    have b := (h.own.1.lt g h2).2
    omega⟩
theorem lastN_neg (op : List Nat) {x : Int} (h : x < 0) : ∀ i, lastN (ordZ op) x i = 0
  | 0 => rfl
  | i + 1 => by
    unfold lastN
    rw [if_neg (fun e => by
      obtain ⟨k, -, hk⟩ := (ordZ_at _ _ _).1 e
      omega), lastN_neg op h i]
theorem lastN_hit (op : List Nat) (x : Int) (k : Nat) (h : k < op.length) (e : ((op[k] : Int) == x) = true) : lastN (ordZ op) x (k + 1) = k := by
  show (if (ordZ op)[k]? = some x then k else lastN (ordZ op) x k) = k
  rw [if_pos ((ordZ_at _ _ _).2 ⟨op[k], List.getElem?_eq_getElem h, (beq_iff_eq.1 e).symm⟩)]
theorem lastN_miss (op : List Nat) (x : Int) (k : Nat) (h : k < op.length) (e : ((op[k] : Int) == x) = false) : lastN (ordZ op) x (k + 1) = lastN (ordZ op) x k := by
  show (if (ordZ op)[k]? = some x then k else lastN (ordZ op) x k) = _
  rw [if_neg (fun q => by
    obtain ⟨j, hj, rfl⟩ := (ordZ_at _ _ _).1 q
    rw [List.getElem?_eq_getElem h] at hj
    cases hj
    simp at e)]
theorem lastN_one (z : List Int) (x : Int) : lastN z x 1 = 0 := by
  show (if z[0]? = some x then 0 else lastN z x 0) = 0
  split <;> rfl
theorem lastN_end (op : List Nat) (x : Int) (k : Nat) (h : ¬ k < op.length) (h2 : k ≤ op.length ∨ k = 1) : lastN (ordZ op) x k = lastP op x := by
  unfold lastP
  rcases h2 with h2 | rfl
  · rw [show k = op.length by omega]
  · rw [lastN_one]
    rcases Nat.eq_zero_or_pos op.length with e | e
    · rw [e]; rfl
    · rw [show op.length = 1 by omega, lastN_one]
/-- those of the first k but one -/
def but (op : List Nat) (K k : Nat) : List Nat := (op.take k).eraseIdx K
theorem but_same (op : List Nat) (K : Nat) (h : K < op.length) : but op K (K + 1) = but op K K := by
  unfold but
  rw [List.take_succ_eq_append_getElem h, List.eraseIdx_append_of_length_le (by rw [List.length_take]; omega), show K - (op.take K).length = 0 by rw [List.length_take]; omega, List.eraseIdx_of_length_le (l := op.take K) (k := K) (by rw [List.length_take]; omega)]
  simp
theorem but_snoc (op : List Nat) (K k : Nat) (h : k < op.length) (hne : k ≠ K) : but op K (k + 1) = but op K k ++ [op[k]] := by
  unfold but
  rw [List.take_succ_eq_append_getElem h]
  rcases Nat.lt_or_ge K k with hk | hk
  · rw [List.eraseIdx_append_of_lt_length (by rw [List.length_take]; omega)]
  · have : K - (op.take k).length = (K - k - 1) + 1 := by rw [List.length_take]; omega
    rw [List.eraseIdx_append_of_length_le (by rw [List.length_take]; omega), this, List.eraseIdx_of_length_le (l := op.take k) (k := K) (by rw [List.length_take]; omega)]
    rfl
theorem but_all (op : List Nat) (K : Nat) : but op K op.length = op.eraseIdx K := by unfold but; rw [List.take_length]
theorem but_le (op : List Nat) (K k : Nat) : (but op K k).length ≤ k := by
  unfold but
  have h1 := List.length_eraseIdx_le (l := op.take k) (i := K)
  have h2 := List.length_take_le k op
  omega
noncomputable def stay (l : List Obj) (op ld : List Nat) (k : Nat) : List Nat := (ld.take k).filter (needP l op)
noncomputable def gone (l : List Obj) (op ld : List Nat) (k : Nat) : List Nat := ((ld.take k).filter fun k => !needP l op k).reverse
theorem stay_le (l : List Obj) (op ld : List Nat) (k : Nat) : (stay l op ld k).length ≤ k := by
  unfold stay
  have h1 := List.length_filter_le (needP l op) (ld.take k)
  have h2 := List.length_take_le k ld
  omega
theorem gone_le (l : List Obj) (op ld : List Nat) (k : Nat) : (gone l op ld k).length ≤ k := by
  unfold gone
  have h1 := List.length_filter_le (fun k => !needP l op k) (ld.take k)
  have h2 := List.length_take_le k ld
  rw [List.length_reverse]
  omega
theorem stay_yes (l : List Obj) (op ld : List Nat) (k : Nat) (h : k < ld.length) (e : needP l op ld[k] = true) : stay l op ld (k + 1) = stay l op ld k ++ [ld[k]] ∧ gone l op ld (k + 1) = gone l op ld k := by
  unfold stay gone
  rw [List.take_succ_eq_append_getElem h, List.filter_append, List.filter_append, List.filter_cons_of_pos e, List.filter_cons_of_neg (by rw [e]; simp)]
  simp
theorem stay_no (l : List Obj) (op ld : List Nat) (k : Nat) (h : k < ld.length) (e : needP l op ld[k] = false) : stay l op ld (k + 1) = stay l op ld k ∧ gone l op ld (k + 1) = ld[k] :: gone l op ld k := by
  unfold stay gone
  rw [List.take_succ_eq_append_getElem h, List.filter_append, List.filter_append, List.filter_cons_of_neg (by rw [e]; simp), List.filter_cons_of_pos (by rw [e]; rfl)]
  simp
theorem stay_all (l : List Obj) (op ld : List Nat) : stay l op ld ld.length = ld.filter (needP l op) ∧ gone l op ld ld.length = (ld.filter fun k => !needP l op k).reverse := by
  unfold stay gone
  rw [List.take_length]
  exact ⟨rfl, rfl⟩
end Go.Proofs.Ytfneikphgmjfbaa
