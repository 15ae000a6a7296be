/- Merged: AsR AsS AsU. -/
import Derived.Deep.RegionHeld3
import Derived.OrdersIn
import Derived.Test.YtdpmihlmfephiaaGreatDoorAs4
import Derived.Lib.Builder
import Derived.Lib.AppendStr
import Derived.Lib.UnsafeStr
import Derived.Laws.Externs
namespace Go.Proofs.YtdpmihlmfephiaaGreatDoor
set_option linter.unusedVariables false
set_option linter.unusedSimpArgs false
open Go.Joins Go.ChangeShapes Go.WideShapes Go.ChangeAt Go.RowKit Go.Deep Go.Shelf

theorem asm_err {all : List (Nat × List UInt8)} {s : List UInt8} {p : Nat} {e : Int} (h : asmN all s p = .inl e) : e = 50 ∨ e = 51 := by
  unfold asmN at h
  split at h
  · split at h
    · cases h; exact .inl rfl
    · split at h
      · cases h; exact .inr rfl
      · split at h
        · cases h; exact .inl rfl
        · cases h
  · split at h
    · cases h; exact .inl rfl
    · cases h
theorem goN_lab {all : List (Nat × List UInt8)} {x : Nat × List UInt8} {o : List UInt8} (r : List (Nat × List UInt8)) (code : List UInt8) (h : labelF x.2 = some o) : goN all (x :: r) code = if (lookN o all 0).map (·.1) = some x.1 then goN all r code else ([], x.1, 51) := by
  simp only [goN, h]
theorem goN_ins {all : List (Nat × List UInt8)} {x : Nat × List UInt8} (r : List (Nat × List UInt8)) (code : List UInt8) (h : labelF x.2 = none) : goN all (x :: r) code = match asmN all x.2 code.length with
      | .inl e => ([], x.1, e)
      | .inr w => goN all r (code ++ le4 w) := by
  simp only [goN, h]
  cases asmN all x.2 code.length <;> rfl
theorem goN_ok {all : List (Nat × List UInt8)} (r : List (Nat × List UInt8)) : ∀ (l : List (Nat × List UInt8)) (code c : List UInt8), goN all l code = (c, 0, 0) → goN all (l ++ r) code = goN all r c
  | [], code, c, h => by
    simp only [goN, Prod.mk.injEq, and_true] at h
    rw [List.nil_append, h]
  | x :: l, code, c, h => by
    rw [List.cons_append]
    cases hl : labelF x.2 with
    | some o =>
      rw [goN_lab _ _ hl] at h ⊢
      split at h
      · rename_i hq
        rw [if_pos hq]
        exact goN_ok r l code c h
      · have := congrArg (fun z => z.2.2) h
        have h51 : (51 : Int) = 0 := this
        exact absurd h51 (by decide)
    | none =>
      rw [goN_ins _ _ hl] at h ⊢
      cases ha : asmN all x.2 code.length with
      | inl e =>
        rw [ha] at h
        have := congrArg (fun z => z.2.2) h
        have he : e = 0 := this
        rcases asm_err ha with q | q <;> omega
      | inr w =>
        rw [ha] at h
        exact goN_ok r l _ c h
theorem goN_err {all : List (Nat × List UInt8)} (r : List (Nat × List UInt8)) : ∀ (l : List (Nat × List UInt8)) (code c : List UInt8) (n : Nat) (e : Int), e ≠ 0 → goN all l code = (c, n, e) → goN all (l ++ r) code = (c, n, e)
  | [], code, c, n, e, he, h => by
    simp only [goN, Prod.mk.injEq] at h
    exact absurd h.2.2.symm he
  | x :: l, code, c, n, e, he, h => by
    rw [List.cons_append]
    cases hl : labelF x.2 with
    | some o =>
      rw [goN_lab _ _ hl] at h ⊢
      split at h
      · rename_i hq
        rw [if_pos hq]
        exact goN_err r l code c n e he h
      · rename_i hq
        rw [if_neg hq]; exact h
    | none =>
      rw [goN_ins _ _ hl] at h ⊢
      cases ha : asmN all x.2 code.length with
      | inl e' => rw [ha] at h; exact h
      | inr w =>
        rw [ha] at h
        exact goN_err r l _ c n e he h
theorem goN_labstep {all l : List (Nat × List UInt8)} {x : Nat × List UInt8} {c o : List UInt8} (h : goN all l [] = (c, 0, 0)) (ho : labelF x.2 = some o) (hx : (lookN o all 0).map (·.1) = some x.1) : goN all (l ++ [x]) [] = (c, 0, 0) := by
  rw [goN_ok [x] l [] c h, goN_lab _ _ ho, if_pos hx]; rfl
theorem goN_labstop {all l : List (Nat × List UInt8)} {x : Nat × List UInt8} {c o : List UInt8} (h : goN all l [] = (c, 0, 0)) (ho : labelF x.2 = some o) (hx : (lookN o all 0).map (·.1) ≠ some x.1) : goN all (l ++ [x]) [] = ([], x.1, 51) := by
  rw [goN_ok [x] l [] c h, goN_lab _ _ ho, if_neg hx]
theorem goN_insstep {all l : List (Nat × List UInt8)} {x : Nat × List UInt8} {c : List UInt8} {w : Nat} (h : goN all l [] = (c, 0, 0)) (ho : labelF x.2 = none) (hx : asmN all x.2 c.length = .inr w) : goN all (l ++ [x]) [] = (c ++ le4 w, 0, 0) := by
  rw [goN_ok [x] l [] c h, goN_ins _ _ ho, hx]; rfl
theorem goN_insstop {all l : List (Nat × List UInt8)} {x : Nat × List UInt8} {c : List UInt8} {e : Int} (h : goN all l [] = (c, 0, 0)) (ho : labelF x.2 = none) (hx : asmN all x.2 c.length = .inl e) : goN all (l ++ [x]) [] = ([], x.1, e) := by
  rw [goN_ok [x] l [] c h, goN_ins _ _ ho, hx]
theorem lookN_le (nm : List UInt8) (y : Nat × Nat) : ∀ (l : List (Nat × List UInt8)) (a : Nat), lookN nm l a = some y → y.2 ≤ a + 4 * l.length
  | [], a, h => by simp [lookN] at h
  | x :: r, a, h => by
    rw [List.length_cons]
    simp only [lookN] at h
    split at h
    · split at h
      · cases h; simp only []; omega
      · have := lookN_le nm y r a h; omega
    · have := lookN_le nm y r (a + 4) h; omega
def u8B (l : List UInt8) : List Value := l.map fun b => Value.int .u8 (b.toNat : Int)
theorem u8B_len (l : List UInt8) : (u8B l).length = l.length := List.length_map _
theorem u8B_app (a b : List UInt8) : u8B (a ++ b) = u8B a ++ u8B b := List.map_append
theorem u8B_one (l : List UInt8) : ∀ u ∈ u8B l, u.oneCell' = true := by
  intro u hu
  obtain ⟨b, -, rfl⟩ := List.mem_map.1 hu
  rfl
theorem le4_little (w : Nat) : u8s (littleZ (w : Int) 4) = u8B (le4 w) := by
  have h : littleZ (w : Int) 4 = [byteN w 0, byteN w 1, byteN w 2, byteN w 3] := by
    unfold littleZ
    rw [if_neg (by omega)]
    rfl
  have hm : ∀ x : Nat, (UInt8.ofNat (x % 256)).toNat = x % 256 := fun x => by simp
  rw [h]
  unfold u8s u8B le4 byteN
  simp only [List.map_cons, List.map_nil, hm]
  simp [Nat.shiftRight_eq_div_pow]
/-! The lines that say something. -/
theorem numbF_snoc : ∀ (l : List (List UInt8)) (i : Nat) (y : List UInt8), numbF i (l ++ [y]) = numbF i l ++ (if y = [] then [] else [(i + l.length, y)])
  | [], i, y => by
    simp only [List.nil_append, numbF, List.length_nil, Nat.add_zero]
  | z :: r, i, y => by
    rw [List.cons_append]
    unfold numbF
    rw [numbF_snoc r (i + 1) y, List.length_cons]
    split
    · split <;> simp; omega
    · split <;> simp; omega
theorem vals_pre (L : List (List UInt8)) (hl : ∀ x ∈ L, x.length ≤ 5000) (hn : L.length ≤ 100000) : ∀ k, k ≤ L.length → vals (preX L k) = numbF 1 ((L.take k).map cleanF)
  | 0, _ => rfl
  | k + 1, h => by
    have hk : k < L.length := by omega
    have hy : (cleanF L[k]).length ≤ 5000 := Nat.le_trans (cleanF_le _) (hl _ (List.getElem_mem hk))
    have hg : L.getD k [] = L[k] := by simp [hk]
    rw [List.take_succ_eq_append_getElem hk, List.map_append, List.map_cons, List.map_nil, numbF_snoc, ← vals_pre L hl hn k (by omega), List.length_map, List.length_take, Nat.min_eq_left (by omega)]
    show vals (preX L k ++ (mkX (k + 1) (cleanF (L.getD k []))).toList) = _
    unfold vals
    rw [List.map_append, hg]
    congr 1
    by_cases he : cleanF L[k] = []
    · rw [if_pos he, he]; simp [mkX]
    · rw [if_neg he]
      unfold mkX
      rw [dif_pos ⟨by omega, hy, he⟩]
      show [(k + 1, cleanF L[k])] = _
      rw [Nat.add_comm]
theorem vals_lines (s : List UInt8) (hs : s.length ≤ 5000) : vals (xsOf s) = numbF 1 (linesF s) := by
  have h1 := split_le s [10]
  have h2 := split_len s [10]
  unfold xsOf linesF
  rw [vals_pre _ (fun x hx => Nat.le_trans (h1 x hx) hs) (by omega) _ (Nat.le_refl _), List.take_length]
def progX (s : List UInt8) : List UInt8 × Nat × Int := if 4000 < s.length then ([], 0, 2) else progF s

/-! A region of a round, by what is known of plain ones. -/
def noDefer (o : Oper) : Bool := match o.op with
  | .defer _ => false
  | _ => true
theorem noDefer_spec {o : Oper} (h : noDefer o = true) : ∀ c, o.op ≠ .defer c := fun c e => by
  unfold noDefer at h
  rw [e] at h
  cases h
theorem op_round {P : Program} {l n : Nat} {o : Oper} {a : Act} {w : World} {K : Act → World → Prop} {Q : Exit → Act → World → Prop} (hd : noDefer o = true) (h : o.wp P a w K Q) : o.wpIn (Fence.wide.inRound l) n P a w K Q := by
  refine ⟨fun f _ => trivial, ?_⟩
  rw [Oper.semAt_plain (Fence.wide.inRound l) a.eval o (noDefer_spec hd)]
  unfold Oper.wp at h
  generalize (execOp a.eval o).run P w = r at h ⊢
  cases r with
  | ok x w' =>
    cases x with
    | value v => exact h
    | skip => exact h
    | defer d => exact h
    | enter f args => exact ⟨fun e => (by cases e), CallsIn.inRound l (callsIn_wide.2 h)⟩
    | row row args => exact ⟨fun e => (by cases e), fun c cs _ => let ⟨v, w'', r, s⟩ := h c cs; ⟨v, w'', r, stepsIn_wide.2 s⟩⟩
    | round l f tmps assign body => exact h.elim
    | _ => exact h.elim
  | halt x w' => cases x <;> exact h
/-- all goes on -/
def OnlyN (K : Act → World → Prop) : Exit → Act → World → Prop
  | .normal, a, w => K a w
  | _, _, _ => False
theorem OnlyN.out {K : Act → World → Prop} : ¬ LetsOut (OnlyN K) := fun ⟨_, _, h⟩ => h
theorem OnlyN.imp {K : Act → World → Prop} {Q : Exit → Act → World → Prop} (h : ∀ a w, K a w → Q .normal a w) : ∀ (e : Exit) (a : Act) (w : World), OnlyN K e a w → Q e a w := fun e a w q => by
  cases e <;> first | exact h _ _ q | exact q.elim
theorem any_round {P : Program} {l n : Nat} {md : Region.Mode} {ops : Array Oper} {Q : Exit → Act → World → Prop} (hd : ops.all noDefer = true) (hL : ¬ LetsOut Q) : ∀ (fuel : Nat) (listed : Array Bool) (a : Act) (w : World), wpAny P md ops Q fuel listed a w → wpAnyIn (Fence.wide.inRound l) n P md ops Q fuel listed a w
  | 0, _, _, _, h => h
  | fuel + 1, listed, a, w, ⟨h0, h1⟩ => by
    refine ⟨h0, fun i hi => ?_⟩
    have h2 := h1 i hi
    unfold wpOp at h2
    unfold wpOpIn
    cases ho : ops[i]? with
    | none =>
      rw [ho] at h2
      exact any_round hd hL fuel _ _ _ h2
    | some o =>
      rw [ho] at h2
      simp only [] at h2 ⊢
      have hdo : noDefer o = true := by
        obtain ⟨hlt, he⟩ := Array.getElem?_eq_some_iff.1 ho
        have := Array.all_eq_true.1 hd i hlt
        rw [he] at this
        exact this
      by_cases hw : Region.wanted o (yielded ops a.tmps) = true
      · rw [if_pos hw] at h2 ⊢
        exact Oper.wpIn_mono (fun a w h => any_round hd hL fuel _ a w h) (op_round hdo (h2.resolve_right fun q => hL q.2))
      · rw [if_neg hw] at h2 ⊢
        exact ⟨fun f _ => trivial, any_round hd hL fuel _ _ _ h2⟩
theorem region_round {P : Program} {l n id : Nat} {ops : Array Oper} {Q : Exit → Act → World → Prop} {S : World → Prop} {a : Act} {w : World} (hm : P.follows .mixedOrders = true) (hd : ops.all noDefer = true) (hS : S w.drew)
    (h : S w.drew → wpAnyH P .any ops (OnlyN (Q .normal)) S ops.size (Array.replicate ops.size false) a w.drew) : (Code.region id ops true).wpIn (Fence.wide.inRound l) n P Q a w :=
  Code.wpIn_mono (OnlyN.imp fun _ _ h => h) (wpIn_region_any hm (any_round hd OnlyN.out _ _ _ _ (wpAny_of_held _ _ _ _ (h hS))))
theorem mixed : Tryz.prog.follows .mixedOrders = true := by kernel_rfl
end Go.Proofs.YtdpmihlmfephiaaGreatDoor

namespace Go.Proofs.YtdpmihlmfephiaaGreatDoor
set_option linter.unusedVariables false
set_option linter.unusedSimpArgs false
open Go.Joins Go.ChangeShapes Go.WideShapes Go.ChangeAt Go.RowKit Go.Deep Go.Shelf
attribute [local go_sem] Oper.semAt_some

theorem row_block {A : World} {B : Nat} {v : Value} {k : Nat} {xs : List Value} (h : A.ownsRow B 5 1 v k xs) {g : Nat} (hg : v.ownBlock = some g) : ∃ cur, A.heap[g]? = some (.cells cur 5 (0, 0)) := by
  rcases h.2 with ⟨rfl, -⟩ | ⟨g', cap, cur, rfl, -, hgg, -⟩
  · cases hg
  · cases hg; exact ⟨cur, hgg⟩
theorem row_kept {A W : World} {B : Nat} {v : Value} {k : Nat} {xs : List Value} {row : Option Nat} (h : A.ownsRow B 5 1 v k xs) (hg : A.grownBy W row) (hr : ∀ r, row = some r → ∃ o : Go.Obj, A.heap[r]? = some o ∧ o.isCells = false) : W.ownsRow B 5 1 v k xs := by
  refine h.kept hg ?_
  cases hv : v.ownBlock with
  | none => exact .inl rfl
  | some g =>
    refine .inr fun e => ?_
    obtain ⟨o, ho, hc⟩ := hr g e.symm
    obtain ⟨cur, hcur⟩ := row_block h hv
    rw [hcur] at ho; cases ho; cases hc
theorem row_below {A W : World} {B : Nat} {v : Value} {k : Nat} {xs : List Value} (h : A.ownsRow B 5 1 v k xs) (hb : Below A.heap.size A W) : W.ownsRow B 5 1 v k xs := row_kept h (grown_of_below hb) (fun r e => by cases e)
theorem KC.row {n : Nat} {S : Nat → Prop} {A W : World} {B : Nat} {v : Value} {k : Nat} {xs : List Value} (h : A.ownsRow B 5 1 v k xs) (hg : A.grownBy W v.ownBlock) (hn : n ≤ B) (hW : n ≤ A.heap.size) : KC n S A W :=
  ⟨(Below.refl n A).grown hg hW (fun k e => Nat.le_trans hn (h.lt k e).1), fun b c t f h1 ht _ => (hg.block b (Array.getElem?_eq_some_iff.1 h1).1 (fun e => by
    obtain ⟨cur, hc⟩ := row_block h e.symm
    rw [hc] at h1; cases h1; exact ht rfl)).trans h1⟩
theorem others_row {A W : World} {B : Nat} {v : Value} {k : Nat} {xs : List Value} (h : A.ownsRow B 5 1 v k xs) (hg : A.grownBy W v.ownBlock) : KeepsOthers A W :=
  ⟨hg.size, fun b o h1 h2 => (hg.block b (Array.getElem?_eq_some_iff.1 h1).1 (fun e => by
    obtain ⟨cur, hc⟩ := row_block h e.symm
    rw [hc] at h1; cases h1; cases h2)).trans h1⟩
theorem row_other {A : World} {B : Nat} {v : Value} {k : Nat} {xs : List Value} (h : A.ownsRow B 5 1 v k xs) {b j : Nat} (hb : b < B) (u : Value) : (A.setCell ⟨b, j, none⟩ u).ownsRow B 5 1 v k xs := ownsRow_setCell_below h (a := ⟨b, j, none⟩) hb u
/-- the world of a round of Program: what is made so far -/
structure ProJ (w : World) (all : List (Nat × List UInt8)) (zb : Nat) (v : Value) (code : List UInt8) (a b : Value) (k : Nat) (W : World) : Prop where
  c0 : BoxN W w.heap.size #[v]
  row : W.ownsRow (zb + 2) 5 1 v code.length (u8B code)
  c1 : BoxN W (w.heap.size + 1) #[a]
  c2 : BoxN W (w.heap.size + 2) #[b]
  map : LabAt W (w.heap.size + 3) k (fun nm => lookN nm all 0)
  cm : BoxN W zb #[.map (some (w.heap.size + 3))]
  bel : Below w.heap.size w W
theorem ProJ.kept {w A W : World} {all : List (Nat × List UInt8)} {zb : Nat} {v a b : Value} {code : List UInt8} {k : Nat} {row : Option Nat} (h : ProJ w all zb v code a b k A) (hz : w.heap.size + 4 ≤ zb) (hg : A.grownBy W row) (hr : ∀ r, row = some r → zb + 2 ≤ r ∧ ∃ o : Go.Obj, A.heap[r]? = some o ∧ o.isCells = false) : ProJ w all zb v code a b k W := by
  have hr' : ∀ r, row = some r → ∃ o : Go.Obj, A.heap[r]? = some o ∧ o.isCells = false := fun r e => (hr r e).2
  have hne : ∀ b, b < zb + 2 → row ≠ some b := fun b hb e => by have := (hr b e).1; omega
  exact ⟨h.c0.kept hg hr', row_kept h.row hg hr', h.c1.kept hg hr', h.c2.kept hg hr', h.map.kept hg (hne _ (by omega)), h.cm.kept hg hr', h.bel.grown hg h.bel.size (fun k e => by have := (hr k e).1; omega)⟩
theorem ProJ.below {w A W : World} {all : List (Nat × List UInt8)} {zb : Nat} {v a b : Value} {code : List UInt8} {k : Nat} (h : ProJ w all zb v code a b k A) (hz : w.heap.size + 4 ≤ zb) (hb : Below A.heap.size A W) : ProJ w all zb v code a b k W :=
  h.kept hz (grown_of_below hb) (fun r e => by cases e)
theorem ProJ.set0 {w A : World} {all : List (Nat × List UInt8)} {zb : Nat} {v a b : Value} {code : List UInt8} {k : Nat} (h : ProJ w all zb v code a b k A) (hz : w.heap.size + 4 ≤ zb) {v' : Value} {code' : List UInt8} (hv : A.ownsRow (zb + 2) 5 1 v' code'.length (u8B code')) : ProJ w all zb v' code' a b k (A.setCell ⟨w.heap.size, 0, none⟩ v') :=
  ⟨h.c0.set 0 v', row_other hv (by omega) _, h.c1.other (by omega), h.c2.other (by omega), h.map.set (by show w.heap.size + 3 ≠ w.heap.size; omega) _, h.cm.other (by omega), h.bel.setCell (by exact Nat.le_refl _) _⟩
theorem ProJ.set1 {w A : World} {all : List (Nat × List UInt8)} {zb : Nat} {v a b : Value} {code : List UInt8} {k : Nat} (h : ProJ w all zb v code a b k A) (hz : w.heap.size + 4 ≤ zb) (u : Value) : ProJ w all zb v code u b k (A.setCell ⟨w.heap.size + 1, 0, none⟩ u) :=
  ⟨h.c0.other (by omega), row_other h.row (by omega) _, h.c1.set 0 u, h.c2.other (by omega), h.map.set (by show w.heap.size + 3 ≠ w.heap.size + 1; omega) _, h.cm.other (by omega), h.bel.setCell (by show w.heap.size ≤ w.heap.size + 1; omega) _⟩
theorem ProJ.set2 {w A : World} {all : List (Nat × List UInt8)} {zb : Nat} {v a b : Value} {code : List UInt8} {k : Nat} (h : ProJ w all zb v code a b k A) (hz : w.heap.size + 4 ≤ zb) (u : Value) : ProJ w all zb v code a u k (A.setCell ⟨w.heap.size + 1 + 1, 0, none⟩ u) :=
  ⟨h.c0.other (by omega), row_other h.row (by omega) _, h.c1.other (by omega), h.c2.set 0 u, h.map.set (by show w.heap.size + 3 ≠ w.heap.size + 1 + 1; omega) _, h.cm.other (by omega), h.bel.setCell (by show w.heap.size ≤ w.heap.size + 1 + 1; omega) _⟩
theorem ProJ.app {w A W : World} {all : List (Nat × List UInt8)} {zb : Nat} {v v' a b : Value} {code code' : List UInt8} {k : Nat} (h : ProJ w all zb v code a b k A) (hz : w.heap.size + 4 ≤ zb) (hA : zb + 2 ≤ A.heap.size) (hv : W.ownsRow (zb + 2) 5 1 v' code'.length (u8B code')) (hg : A.grownBy W v.ownBlock) : ProJ w all zb v' code' a b k (W.setCell ⟨w.heap.size, 0, none⟩ v') := by
  have hl := fun g e => (h.row.lt g e).1
  have hne : ∀ b, b < zb + 2 → v.ownBlock ≠ some b := fun b hb e => by have := hl b e; omega
  have c0 := h.c0.grown hg (hne _ (by omega))
  have c1 := h.c1.grown hg (hne _ (by omega))
  have c2 := h.c2.grown hg (hne _ (by omega))
  have cm := h.cm.grown hg (hne _ (by omega))
  have mp := h.map.kept hg (hne _ (by omega))
  have bl := h.bel.grown hg h.bel.size (fun k e => by have := hl k e; omega)
  exact ⟨c0.set 0 v', row_other hv (by omega) _, c1.other (by omega), c2.other (by omega), mp.set (by show w.heap.size + 3 ≠ w.heap.size; omega) _, cm.other (by omega), bl.setCell (by exact Nat.le_refl _) _⟩
def ProI (w : World) (all : List (Nat × List UInt8)) (zb : Nat) (pre : List LX) (W : World) : Prop :=
  ∃ code v k, goN all (vals pre) [] = (code, 0, 0) ∧ code.length ≤ 4 * pre.length ∧ zb + 2 ≤ W.heap.size ∧ ProJ w all zb v code (.int .i64 0) (.int .i64 0) k W
def ProX (w : World) (all : List (Nat × List UInt8)) (zb : Nat) (c : Code) (pre : List LX) (W : World) : Prop :=
  c = .ret ∧ ∃ (n : Nat) (e : Int) (k : Nat), goN all (vals pre) [] = ([], n, e) ∧ e ≠ 0 ∧ ProJ w all zb (.slice none 0 0) [] (.int .i64 (n : Int)) (.int .i64 e) k W
theorem proI_own (w : World) (all : List (Nat × List UInt8)) (zb : Nat) (hz : w.heap.size + 4 ≤ zb) : OwnFrom (zb + 2) (ProI w all zb) := by
  rintro pre A W row ⟨code, v, k, h1, h2, h3, h4⟩ hg hr
  exact ⟨code, v, k, h1, h2, Nat.le_trans h3 hg.size, h4.kept hz hg hr⟩
theorem proX_own (w : World) (all : List (Nat × List UInt8)) (zb : Nat) (hz : w.heap.size + 4 ≤ zb) (c : Code) : OwnFrom (zb + 2) (ProX w all zb c) := by
  rintro pre A W row ⟨h1, n, e, k, h2, h3, h4⟩ hg hr
  exact ⟨h1, n, e, k, h2, h3, h4.kept hz hg hr⟩
theorem row_nil (W : World) (B : Nat) : W.ownsRow B 5 1 (.slice none 0 0) 0 [] := World.ownsRow_nil W B _ 1
theorem own_cap {W : World} {B : Nat} {e : TypeId} {a : Option Addr} {n c : Nat} {xs : List Value} (h : W.ownsRow B e 1 (.slice a n c) n xs) : n ≤ c := by
  rcases h.2 with ⟨h1, h2⟩ | ⟨g, cap, cur, h1, -, -, h2, -⟩
  · cases h1; exact Nat.le_refl _
  · cases h1; exact h2
def ProPost (P : List UInt8 × Nat × Int) (w : World) (e : Ending) (w' : World) : Prop :=
  ∃ a c, e = .returned (.tuple #[.slice a P.1.length c, .int .i64 (P.2.1 : Int), .int .i64 P.2.2]) ∧ Rd w' a P.1.length (u8B P.1) ∧ P.1.length ≤ c ∧ Below w.heap.size w w'
theorem pro_res {w W : World} {all : List (Nat × List UInt8)} {zb : Nat} {v a b : Value} {code : List UInt8} {k : Nat} (h : ProJ w all zb v code a b k W) (tmps : Array Value) (h2 : tmps[2]? = some (.pointer (some ⟨w.heap.size, 0, none⟩))) (h3 : tmps[3]? = some (.pointer (some ⟨w.heap.size + 1, 0, none⟩))) (h4 : tmps[4]? = some (.pointer (some ⟨w.heap.size + 1 + 1, 0, none⟩))) : (results Tryz.f17 tmps).run Tryz.prog W = .ok (.tuple #[v, a, b]) W := by
  have k0 := h.c0.cell 0
  have k1 := h.c1.cell 0
  have k2 : W.cell? ⟨w.heap.size + 1 + 1, 0, none⟩ = _ := h.c2.cell 0
  simp [results, Tryz.results17, go_sem, h2, h3, h4, k0, k1, k2]
theorem pro_post {w W : World} {all : List (Nat × List UInt8)} {zb : Nat} {v : Value} {n : Nat} {e : Int} {code : List UInt8} {k : Nat} (h : ProJ w all zb v code (.int .i64 (n : Int)) (.int .i64 e) k W) {D : Nat} (hz : w.heap.size + 4 ≤ zb) (hD : zb + 2 ≤ D) (hKD : W.heap[D]? = some (.deferred (some []))) : ProPost (code, n, e) w (.returned (.tuple #[v, .int .i64 (n : Int), .int .i64 e])) (W.putObj D (.deferred none)) := by
  have hk := h.kept hz (grownBy_putObj' W D (.deferred none)) (fun r e => by cases e; exact ⟨hD, _, hKD, rfl⟩)
  obtain ⟨a, c, rfl, -⟩ := own_slice hk.row
  exact ⟨a, c, rfl, Rd.of_own hk.row, own_cap hk.row, hk.bel⟩
theorem list_line {l n : Nat} {ops : Array Oper} {rest : List Oper} {o : Oper} {a : Act} {w : World} {Q : Exit → Act → World → Prop} {x : Operand} {u v : Value} (hg : o.guard = none) (ho : o.op = .field 68 x 0) (hx : a.eval x = .agg #[u, v]) (h : wpListIn (Fence.wide.inRound l) n Tryz.prog ops Q rest (a.put o.dst u) w) : wpListIn (Fence.wide.inRound l) n Tryz.prog ops Q (o :: rest) a w :=
  wpListIn_plain hg fun K hK => op_round (by unfold noDefer; rw [ho]) (by
    have hu : Tryz.prog.underlying 68 = _ := Tryz.underlying68
    have hrun : (execOp a.eval o).run Tryz.prog w = .ok (.value u) w := by
      unfold execOp
      simp only [ho, hx]
      simp [Instr.field, Sem.run_bind, run_underlying hu, go_sem]
      rfl
    unfold Oper.wp
    rw [hrun]
    exact hK _ _ h)
theorem others_below {A W : World} (h : Below A.heap.size A W) : KeepsOthers A W := ⟨h.size, fun k o hk _ => (h.block k (Array.getElem?_eq_some_iff.1 hk).1).trans hk⟩
theorem encO_lt {s : List UInt8} {y : Int × Ins} (h : parF s = some y) : encO y < 4294967296 := by
  obtain ⟨op, x⟩ := y
  obtain ⟨hok, -⟩ := (parF_iff _ _ _).1 h
  have hr : rightB op x.rd x.rs1 x.rs2 x.n = true := hok
  have := encR_lt op x.rd x.rs1 x.rs2 x.n
  unfold encR at this
  rw [if_pos hr] at this
  exact this
theorem asm_lt {all : List (Nat × List UInt8)} {s : List UInt8} {p w : Nat} (h : asmN all s p = .inr w) : w < 4294967296 := by
  unfold asmN at h
  split at h
  · split at h
    · cases h
    · split at h
      · cases h
      · split at h
        · cases h
        · rename_i hy
          cases h; exact encO_lt hy
  · split at h
    · cases h
    · rename_i hy
      cases h; exact encO_lt hy
theorem little_le (en : Nat) (h : en < 4294967296) (w : World) :
    Calls Tryz.prog 44 #[.int .u64 (en : Int), .int .i64 4] w fun e w' => ∃ a c, e = .returned (.slice a 4 c) ∧ Rd w' a 4 (u8B (le4 en)) ∧ Below w.heap.size w w' := by
  refine (little_any (en : Int) 4 w (by omega) (by omega)).mono ?_
  rintro e w' ⟨v, rfl, ho, hb⟩
  rw [le4_little] at ho
  have hl : (littleZ (en : Int) 4).length = 4 := by
    have := congrArg List.length (le4_little en)
    rw [u8B_len] at this
    unfold u8s at this
    rw [List.length_map] at this
    exact this
  rw [hl] at ho
  obtain ⟨a, c, rfl, -⟩ := own_slice ho
  exact ⟨a, c, rfl, Rd.of_own ho, hb⟩
set_option maxRecDepth 100000 in
theorem prog_long (s : List UInt8) (w : World) (hs : 4000 < s.length) (hl : s.length < 1000000) :
    Calls Tryz.prog 17 #[.string ⟨s.toArray⟩] w (ProPost ([], 0, 2) w) := by
  have hsz : (⟨s.toArray⟩ : ByteArray).size = s.length := mk_size s
  obtain ⟨n, hn⟩ : ∃ n, s.length = n := ⟨_, rfl⟩
  rw [hn] at hsz hs hl
  have hlt : (4000 : Int) < (n : Int) := by omega
  have hd : decide ((4000 : Int) < (n : Int)) = true := decide_eq_true hlt
  have hd2 : decide (4000 < n) = true := decide_eq_true hs
  clear hn
  refine (callsIn_wide (n := 9)).1 ?_
  refine callsIn_of_wp_marks Tryz.func17 rfl trivial ?_ rfl
  simp only [Tryz.ntmps17, List.size_toArray, List.length_cons, List.length_nil, Nat.reduceAdd, Nat.reduceSub, Array.replicate_succ, Array.replicate_zero, List.push_toArray, List.append_toArray, List.nil_append, List.cons_append]
  refine wpIn_wide.2 ?_
  go_wp2_with fail
  refine leaves_plain (v := .tuple #[.slice none 0 0, .int .i64 0, .int .i64 2]) (by simp [results, Tryz.results17, go_sem]) ⟨none, 0, rfl, Rd.nil _ _, Nat.le_refl _, ?_⟩
  repeat (with_reducible refine bAlloc ?_ _)
  exact Below.refl _ _
set_option maxRecDepth 100000 in
set_option maxHeartbeats 4000000 in
theorem prog_short (s : List UInt8) (w : World) (hn : NA w) (hs : s.length ≤ 4000) :
    Calls Tryz.prog 17 #[.string ⟨s.toArray⟩] w (ProPost (goN (vals (xsOf s)) (vals (xsOf s)) []) w) := by
  have hsz : (⟨s.toArray⟩ : ByteArray).size = s.length := mk_size s
  have HGA := Lib.hid (fun W (hW : NA W) => gather_any s W hW (by omega))
  have HNA := Lib.hid hn
  obtain ⟨n, hnl⟩ : ∃ n, s.length = n := ⟨_, rfl⟩
  rw [hnl] at hsz
  have hlt : ¬ (4000 : Int) < (n : Int) := by omega
  have hd : decide ((4000 : Int) < (n : Int)) = false := decide_eq_false hlt
  have hd2 : decide (4000 < n) = false := decide_eq_false (by omega)
  have HS := Lib.hid hs
  clear hnl hn hs
  refine (callsIn_wide (n := 9)).1 ?_
  refine callsIn_of_wp_marks Tryz.func17 rfl trivial ?_ rfl
  simp only [Tryz.ntmps17, List.size_toArray, List.length_cons, List.length_nil, Nat.reduceAdd, Nat.reduceSub, Array.replicate_succ, Array.replicate_zero, List.push_toArray, List.append_toArray, List.nil_append, List.cons_append]
  refine wpIn_wide.2 ?_
  go_wp2_with (first
    | (go_at_call 40; refine (HGA.out _ (((HNA.out.alloc _).alloc _).alloc _)).mono ?_; rintro e w5 ⟨rfl, ⟨k, hlab⟩, hb⟩; have HLAB := Lib.hid hlab; have HB5 := Lib.hid hb; clear hlab hb)
    | (go_at_call 41; refine (lines_any s _).mono ?_; rintro e w1 ⟨rfl, rfl⟩))
  obtain ⟨W0, hW0⟩ : ∃ W0, (w5.alloc (.cells #[.map (some (w.heap.size + 1 + 1 + 1))] 60)).alloc (.cells #[.string ⟨s.toArray⟩] 9) = W0 := ⟨_, rfl⟩
  obtain ⟨W3, hW3⟩ : ∃ W3, ((w.alloc (.cells #[.slice none 0 0] 32)).alloc (.cells #[.int .i64 0] 3)).alloc (.cells #[.int .i64 0] 25) = W3 := ⟨_, rfl⟩
  have hz3 : W3.heap.size = w.heap.size + 3 := by rw [← hW3]; simp
  have hb3 : Below w.heap.size w W3 := by rw [← hW3]; exact bAlloc (bAlloc (bAlloc (Below.refl _ _) _) _) _
  have b0 : BoxN W3 w.heap.size #[.slice none 0 0] := by rw [← hW3]; exact boxN_alloc (boxN_alloc (BoxN.new _ _ _) _) _
  have b1 : BoxN W3 (w.heap.size + 1) #[.int .i64 0] := by
    rw [← hW3]
    have h := BoxN.new (w.alloc (.cells #[.slice none 0 0] 32)) #[.int .i64 0] 3
    rw [World.size_alloc] at h
    exact boxN_alloc h _
  have b2 : BoxN W3 (w.heap.size + 2) #[.int .i64 0] := by
    rw [← hW3]
    have h := BoxN.new ((w.alloc (.cells #[.slice none 0 0] 32)).alloc (.cells #[.int .i64 0] 3)) #[.int .i64 0] 25
    rw [World.size_alloc, World.size_alloc] at h
    exact h
  rw [hW3] at HLAB HB5
  have hl3 : LabAt w5 (w.heap.size + 3) k (fun nm => lookN nm (vals (xsOf s)) 0) := by rw [← hz3]; exact HLAB.out
  have hz5 : w.heap.size + 4 ≤ w5.heap.size := hl3.lt
  have hb50 : Below w5.heap.size w5 W0 := by rw [← hW0]; exact bAlloc (bAlloc (Below.refl _ _) _) _
  have hz0 : W0.heap.size = w5.heap.size + 2 := by rw [← hW0]; simp
  have hbw0 : Below w.heap.size w W0 := hb3.trans ((HB5.out.mono hb3.size).trans (hb50.mono (by omega)))
  have hcm : BoxN W0 w5.heap.size #[.map (some (w.heap.size + 3))] := by rw [← hW0]; exact boxN_alloc (BoxN.new _ _ _) _
  have ht0 : W0.cell? ⟨w5.heap.size + 1, 0, none⟩ = some (.string ⟨s.toArray⟩) := by
    rw [← hW0]
    have h := (BoxN.new (w5.alloc (.cells #[.map (some (w.heap.size + 1 + 1 + 1))] 60)) #[.string ⟨s.toArray⟩] 9).cell 0
    rw [World.size_alloc] at h
    exact h
  have hJ0 : ProJ w (vals (xsOf s)) w5.heap.size (.slice none 0 0) [] (.int .i64 ((0 : Nat) : Int)) (.int .i64 0) k W0 :=
    ⟨boxN_below (boxN_below b0 HB5.out) hb50, row_nil _ _, boxN_below (boxN_below b1 HB5.out) hb50, boxN_below (boxN_below b2 HB5.out) hb50, hl3.below hb50, hcm, hbw0⟩
  have hsx : s.length ≤ 5000 := Nat.le_trans HS.out (by decide)
  have HST := Lib.hid (lines_stops 8 (by decide) (w5.heap.size + 1) (fun b => b = w.heap.size ∨ b = w.heap.size + 1 ∨ b = w.heap.size + 2) s hsx w HNA.out W0 hbw0 (fun b h => by rcases h with h | h | h <;> omega) ht0)
  have hall : ∀ nm y, lookN nm (vals (xsOf s)) 0 = some y → y.2 ≤ 100000 := fun nm y h => by
    have h1 := lookN_le nm y _ 0 h
    have h2 := preX_len (Lib.split s [10]) (Lib.split s [10]).length
    have h3 := split_len s [10]
    rw [vals_len] at h1
    unfold xsOf at h1
    omega
  have HALL := Lib.hid hall
  have HNM : Hid ((xsOf s).length ≤ 6000) := Lib.hid (by unfold xsOf; have h1 := preX_len (Lib.split s [10]) (Lib.split s [10]).length; have h2 := split_len s [10]; omega)
  obtain ⟨all, hxs⟩ : ∃ all, vals (xsOf s) = all := ⟨_, rfl⟩
  rw [hxs] at hJ0 HALL ⊢
  have HXS := Lib.hid hxs
  have HG0 : Hid (ProI w all w5.heap.size [] W0) := Lib.hid ⟨[], _, k, rfl, Nat.zero_le _, Nat.le_of_eq hz0.symm, hJ0⟩
  have HZ0 := Lib.hid hz0
  have hOW : OwnFrom W0.heap.size (ProI w all w5.heap.size) := by rw [hz0]; exact proI_own w all _ hz5
  have hOX : ∀ c, OwnFrom W0.heap.size (ProX w all w5.heap.size c) := fun c => by rw [hz0]; exact proX_own w all _ hz5 c
  have hz4 := hz5
  rw [hW0]
  clear hW0 hW3 hz3 hb3 b0 b1 b2 hl3 hb50 hcm ht0 hJ0 HLAB hxs hall hsx HB5
  refine (wpIn_wide (n := 9)).1 ?_
  refine wpIn_rangeFunc_ownG rfl (by decide) (gf := 78) (lb := #[.pointer (some ⟨w5.heap.size + 1, 0, none⟩)]) rfl trivial (enters_of Tryz.func78 (by kernel_rfl) rfl) HST.out (fun h k => h.trans k) (fun W l o o' hl ho hc _ => KC.putObj W l o o' (by omega) ho hc) (Below.refl _ _) (fun _ => rfl)
    (ProI w all w5.heap.size) (ProX w all w5.heap.size) hOW hOX HG0.out
    (fun x => { tmps := #[.string ⟨s.toArray⟩, undef, .pointer (some ⟨w.heap.size, 0, none⟩), .pointer (some ⟨w.heap.size + 1, 0, none⟩), .pointer (some ⟨w.heap.size + 1 + 1, 0, none⟩), .pointer (some ⟨w5.heap.size, 0, none⟩), .int .i64 (x.1.1 : Int), .string ⟨x.1.2.toArray⟩, undef, undef, undef, undef, .string ⟨s.toArray⟩, .int .i64 (n : Int), .bool false, .string ⟨s.toArray⟩, .map (some (w.heap.size + 1 + 1 + 1)), .string ⟨s.toArray⟩, .func (.func 78) #[] #[.pointer (some ⟨w5.heap.size + 1, 0, none⟩)], .int .i64 (x.1.1 : Int), .string ⟨x.1.2.toArray⟩, undef, undef, undef, undef, undef, undef, undef, undef, undef, undef, undef, undef, undef, undef, undef, undef, undef, undef, undef, undef, undef, undef, undef, undef, undef, undef, undef, undef, undef, undef, undef], defers := [] }) ?assign ?body ?done ?stop
  case assign =>
    intro l x W K hK
    unfold encX
    gi_wp2
    exact hK
  case body =>
    rintro lp pre ⟨⟨i, sd⟩, hx1, hx2, hx3⟩ W ⟨code, v, k, hgo, hcl, hsz, hJ⟩ hlt
    have hlt' : pre.length < 6000 := Nat.lt_of_lt_of_le hlt HNM.out
    have hx1' : 1 ≤ i ∧ i ≤ 100000 := hx1
    have hx2' : sd.length ≤ 5000 := hx2
    have HLN := Lib.hid (labelName_any sd W (by omega))
    have hle := labelF_eq sd
    have HGO := Lib.hid hgo
    have HVS := Lib.hid (vals_snoc pre ⟨(i, sd), hx1, hx2, hx3⟩)
    obtain ⟨va, vc, rfl, -⟩ := own_slice hJ.row
    obtain ⟨m, hm⟩ : ∃ m, code.length = m := ⟨_, rfl⟩
    rw [hm] at hJ hcl
    have HM := Lib.hid hm
    have c0 := hJ.c0.cell 0
    have c0 : W.cell? ⟨w.heap.size, 0, none⟩ = some (.slice va m vc) := c0
    have c1 := hJ.c1.cell 0
    have c2 : W.cell? ⟨w.heap.size + 1 + 1, 0, none⟩ = _ := hJ.c2.cell 0
    have f0 := hJ.c0.frozen 0
    have f1 := hJ.c1.frozen 0
    have f2 : W.frozen? ⟨w.heap.size + 1 + 1, 0, none⟩ = false := hJ.c2.frozen 0
    have cm : W.cell? ⟨w5.heap.size, 0, none⟩ = some (.map (some (w.heap.size + 1 + 1 + 1))) := hJ.cm.cell 0
    have HJ := Lib.hid hJ
    have HSZ := Lib.hid hsz
    cases hlb : labelB sd with
    | true =>
      rw [hlb] at HLN hle
      rw [if_pos rfl] at hle
      have hol := Lib.trimSuffix_le sd [58]
      obtain ⟨o, ho⟩ : ∃ o, Lib.trimSuffix sd [58] = o := ⟨_, rfl⟩
      rw [ho] at HLN hle hol
      have HLE := Lib.hid hle
      have k1 : (Instr.lookup 60 (.map (some (w.heap.size + 1 + 1 + 1))) (.string ⟨o.toArray⟩) false).run Tryz.prog W = _ := (hJ.map.look o (by omega)).2
      obtain ⟨y, hy⟩ : ∃ y, (lookN o all 0).getD (0, 0) = y := ⟨_, rfl⟩
      simp only [hy] at k1
      obtain ⟨y1, y2⟩ := y
      unfold labV at k1
      simp only [] at k1
      by_cases hyi : y1 = i
      · have hlk : (lookN o all 0).map (·.1) = some i := by
          cases hq : lookN o all 0 with
          | none => rw [hq] at hy; cases hy; omega
          | some z => rw [hq] at hy; cases hy; rw [← hyi]; rfl
        have HGN : Hid (goN all (vals pre ++ [(i, sd)]) [] = (code, 0, 0)) := Lib.hid (goN_labstep HGO.out hle hlk)
        subst hyi
        clear hgo hJ hle ho hol hlb hlt hx1' hx2' hm hy hlk
        gi_wp2_with (first
          | (refine ⟨trivial, ?_⟩; gi_at_call 42; refine (CallsIn.inRound lp (callsIn_wide.2 HLN.out)).mono ?_; rintro e w' ⟨rfl, rfl⟩)
          | (refine list_line rfl rfl rfl ?_; simp only [Act.put, List.setIfInBounds_toArray, List.set_cons_zero, List.set_cons_succ]))
        exact ⟨KeepsFrom.refl _ _, KC.refl _ _ _, code, _, k, by rw [HVS.out]; exact HGN.out, by rw [List.length_append, HM.out]; omega, HSZ.out, HM.out.symm ▸ HJ.out⟩
      · have hlk : (lookN o all 0).map (·.1) ≠ some i := by
          cases hq : lookN o all 0 with
          | none => simp
          | some z => rw [hq] at hy; cases hy; simpa using hyi
        have HGN : Hid (goN all (vals pre ++ [(i, sd)]) [] = ([], i, 51)) := Lib.hid (goN_labstop HGO.out hle hlk)
        have hyI : ¬ (y1 : Int) = (i : Int) := by omega
        have d1 : ((y1 : Int) == (i : Int)) = false := by simpa using hyI
        have d2 : ((y1 : Int) != (i : Int)) = true := by simpa using hyI
        clear hgo hJ hle ho hol hlb hlt hx1' hx2' hm hy hlk
        gi_wp2_with (first
          | (refine ⟨trivial, ?_⟩; gi_at_call 42; refine (CallsIn.inRound lp (callsIn_wide.2 HLN.out)).mono ?_; rintro e w' ⟨rfl, rfl⟩)
          | (refine list_line rfl rfl rfl ?_; simp only [Act.put, List.setIfInBounds_toArray, List.set_cons_zero, List.set_cons_succ]))
        exact ⟨(((KeepsOthers.setCell _ _ _).trans (KeepsOthers.setCell _ _ _)).trans (KeepsOthers.setCell _ _ _)).from _, rfl, i, 51, k, by rw [HVS.out]; exact HGN.out, by decide, ((HJ.out.set0 hz4 (code' := []) (row_nil _ _)).set1 hz4 _).set2 hz4 _⟩
    | false =>
      rw [hlb] at HLN hle
      rw [if_neg (by decide)] at hle
      have HLE := Lib.hid hle
      have has : ∀ w', Below W.heap.size W w' → Calls Tryz.prog 43 #[.string ⟨sd.toArray⟩, .int .i64 (m : Int), .map (some (w.heap.size + 1 + 1 + 1))] w' fun e w'' => e = .returned (.tuple #[.int .u32 ((asmW (asmN all sd m) : Nat) : Int), .int .i64 (asmE (asmN all sd m))]) ∧ Below w'.heap.size w' w'' :=
        fun w' hb => assemble_any sd m all (w.heap.size + 3) k w' (HNA.out.on (hJ.bel.trans (hb.mono hJ.bel.size))) hx2' (by omega) (hJ.map.below hb) HALL.out
      have HAS := Lib.hid (has W (Below.refl _ _))
      cases ha : asmN all sd m with
      | inl e =>
        have he := asm_err ha
        have HGN : Hid (goN all (vals pre ++ [(i, sd)]) [] = ([], i, e)) := Lib.hid (goN_insstop HGO.out hle (by rw [HM.out]; exact ha))
        rw [ha] at HAS
        unfold asmW asmE at HAS
        simp only [] at HAS
        have he0 : ¬ e = 0 := by omega
        have d1 : (e == 0) = false := by simpa using he0
        have d2 : (e != 0) = true := by simpa using he0
        clear hgo hJ hle hlb hlt hx1' hx2' hm ha he has
        gi_wp2_with (first
          | (refine ⟨trivial, ?_⟩; gi_at_call 42; refine (CallsIn.inRound lp (callsIn_wide.2 HLN.out)).mono ?_; rintro e w' ⟨rfl, rfl⟩)
          | (refine ⟨trivial, ?_⟩; gi_at_call 43; refine (CallsIn.inRound lp (callsIn_wide.2 HAS.out)).mono ?_; rintro e w1 ⟨rfl, hb⟩; have hj1 := HJ.out.below hz4 hb; have HB1 := Lib.hid hb; have HJ1 := Lib.hid hj1; have c0 := hj1.c0.cell 0; have c1 := hj1.c1.cell 0; have c2 : w1.cell? ⟨w.heap.size + 1 + 1, 0, none⟩ = _ := hj1.c2.cell 0; have f0 := hj1.c0.frozen 0; have f1 := hj1.c1.frozen 0; have f2 : w1.frozen? ⟨w.heap.size + 1 + 1, 0, none⟩ = false := hj1.c2.frozen 0; clear hb hj1))
        exact ⟨((others_below HB1.out).trans (((KeepsOthers.setCell _ _ _).trans (KeepsOthers.setCell _ _ _)).trans (KeepsOthers.setCell _ _ _))).from _, rfl, i, e, k, by rw [HVS.out]; exact HGN.out, he0, ((HJ1.out.set0 hz4 (code' := []) (row_nil _ _)).set1 hz4 _).set2 hz4 _⟩
      | inr en =>
        have hen := asm_lt ha
        have HAE : Hid (asmN all sd code.length = .inr en) := Lib.hid (by rw [HM.out]; exact ha)
        rw [ha] at HAS
        unfold asmW asmE at HAS
        simp only [] at HAS
        have HLI := Lib.hid (little_le en hen)
        have hwu : IntKind.u64.wrap (en : Int) = (en : Int) := wrap_nat en (by omega)
        clear hgo hle hlb hlt hx1' hx2' hm ha has hJ
        have HJ : Hid (ProJ w all w5.heap.size (.slice va m vc) code (.int .i64 0) (.int .i64 0) k W) := Lib.hid (HM.out.symm ▸ HJ.out)
        gi_wp2_with (first
          | (refine ⟨trivial, ?_⟩; gi_at_call 42; refine (CallsIn.inRound lp (callsIn_wide.2 HLN.out)).mono ?_; rintro e w' ⟨rfl, rfl⟩)
          | (refine ⟨trivial, ?_⟩; gi_at_call 43; refine (CallsIn.inRound lp (callsIn_wide.2 HAS.out)).mono ?_; rintro e w1 ⟨rfl, hb⟩; have hj1 := HJ.out.below hz4 hb; have HB1 := Lib.hid hb; have HJ1 := Lib.hid hj1; have c0 := hj1.c0.cell 0; clear hb hj1))
        refine region_round (S := fun _ => True) mixed (by kernel_rfl) trivial (fun hHeld => ?_)
        refine wpAnyH_take (i := 1) (oi := { dst := some 47, op := Op.move (Operand.tmp 10), type := 39, pos := "program.go:33", after := #[], guard := none }) (v := .int .u32 (en : Int)) rfl (by kernel_rfl) (by kernel_rfl) (by kernel_rfl) (fun _ _ _ h => h) (Or.inl ⟨by rfl, ?_⟩) (by assumption) ?_
        · intro W' hSw; (try dsimp only at hSw); (first | (go_simp; done) | (go_simp; rfl))
        simp only [Act.put, List.setIfInBounds_toArray, List.set_cons_zero, List.set_cons_succ]
        refine wpAnyH_take (i := 2) (oi := { dst := some 48, op := Op.convert 39 42 (Operand.tmp 47), type := 42, pos := "program.go:33", after := #[{ on := 1, ground := Ground.data }], guard := none }) (v := .int .u64 (en : Int)) rfl (by kernel_rfl) (by kernel_rfl) (by kernel_rfl) (fun _ _ _ h => h) (Or.inl ⟨by rfl, ?_⟩) (by assumption) ?_
        · intro W' hSw; (try dsimp only at hSw); (first | (go_simp; done) | (go_simp; rfl))
        simp only [Act.put, List.setIfInBounds_toArray, List.set_cons_zero, List.set_cons_succ]
        refine wpAnyH_ready (rs := [0, 3]) (by kernel_rfl) (by simp) ?_
        refine AllReadyH.cons rfl (fun K hK => ?_) (AllReadyH.cons rfl (fun K hK => ?_) AllReadyH.nil)
        · go_simp
          refine hK.out _ _ trivial (fun _ => ?_)
          clear hK K
          try simp only [Act.put, List.setIfInBounds_toArray, List.set_cons_zero, List.set_cons_succ]
          refine wpAnyH_ready (rs := [3]) (by kernel_rfl) (by simp) ?_
          refine AllReadyH.cons rfl (fun K hK => ?_) ?_
          rotate_left
          · exact AllReadyH.nil
          go_simp
          refine (HLI.out _).mono ?_; rintro e w6 ⟨la, lc, rfl, hrd, hb6⟩
          simp only []
          have HB6 : Hid (Below W.heap.size W w6) := Lib.hid ((Below.drew HB1.out).trans (hb6.mono HB1.out.size))
          have HRD := Lib.hid hrd
          have HJ6 := Lib.hid (HJ.out.below hz4 HB6.out)
          have c6 := HJ6.out.c0.cell 0
          have c6 : w6.cell? ⟨w.heap.size, 0, none⟩ = some (.slice va m vc) := c6
          clear hrd hb6
          refine hK.out _ _ trivial (fun _ => ?_)
          clear hK K
          try simp only [Act.put, List.setIfInBounds_toArray, List.set_cons_zero, List.set_cons_succ]
          refine wpAnyH_ready (rs := [4]) (by kernel_rfl) (by simp) ?_
          refine AllReadyH.cons rfl (fun K hK => ?_) ?_
          rotate_left
          · exact AllReadyH.nil
          refine step_appE 32 5 (.int .u8 0) 1 1 Tryz.underlying32 infoU8 rfl (by decide) (by decide) w6 rfl _ _ rfl (w5.heap.size + 2) (.slice va m vc) m (u8B code) rfl (HM.out ▸ HJ6.out.row) la 4 lc (u8B (le4 en)) rfl HRD.out (u8B_one _) (by omega) (Nat.le_trans hsz HB6.out.size) ?_
          intro a7 c7 w7 hown7 hg7 hob7
          have HO7 := Lib.hid hown7
          have HG7 := Lib.hid hg7
          have hbz := (HJ6.out.c0.grown hg7 (fun e => by have := (HJ6.out.row.lt _ e).1; omega))
          have q7 := hbz.cell 0
          have f7 := hbz.frozen 0
          clear hown7 hg7 hob7 hbz
          refine hK.out _ _ trivial (fun _ => ?_)
          clear hK K
          try simp only [Act.put, List.setIfInBounds_toArray, List.set_cons_zero, List.set_cons_succ]
          refine wpAnyH_ready (rs := [5]) (by kernel_rfl) (by simp) ?_
          refine AllReadyH.cons rfl (fun K hK => ?_) ?_
          rotate_left
          · exact AllReadyH.nil
          go_simp
          refine hK.out _ _ trivial (fun _ => ?_)
          clear hK K
          try simp only [Act.put, List.setIfInBounds_toArray, List.set_cons_zero, List.set_cons_succ]
          refine wpAnyH_done (by kernel_rfl) ?_ _
          simp only [OnlyN, Exit.then, Exit.inBlock]
          have hlen : (code ++ le4 en).length = m + 4 := by rw [List.length_append, HM.out]; rfl
          have hown : w7.ownsRow (w5.heap.size + 2) 5 1 (.slice a7 (m + 4) c7) (code ++ le4 en).length (u8B (code ++ le4 en)) := by rw [hlen, u8B_app]; exact HO7.out
          have hs6 : W0.heap.size ≤ w6.heap.size := Nat.le_trans (by omega) (Nat.le_trans hsz HB6.out.size)
          refine ⟨((others_below HB6.out).trans ((others_row HJ6.out.row HG7.out).trans (KeepsOthers.setCell _ _ _))).from _, (KC.of_below HB6.out HJ.out.bel.size).trans ((KC.row HJ6.out.row HG7.out (by omega) HJ6.out.bel.size).trans (KC.set w7 w.heap.size 0 _ (Nat.le_refl _) (Or.inl rfl))), code ++ le4 en, _, k, ?_, by rw [hlen, List.length_append]; show m + 4 ≤ 4 * (pre.length + 1); omega, ?_, HJ6.out.app hz4 (by omega) hown HG7.out⟩
          · rw [HVS.out]; exact goN_insstep HGO.out HLE.out HAE.out
          · show w5.heap.size + 2 ≤ (w7.setCell _ _).heap.size
            rw [show (w7.setCell ⟨w.heap.size, 0, none⟩ (.slice a7 (m + 4) c7)).heap.size = w7.heap.size from Array.size_modify]
            exact Nat.le_trans (by omega) HG7.out.size
        · go_simp
          refine (HLI.out _).mono ?_; rintro e w6 ⟨la, lc, rfl, hrd, hb6⟩
          simp only []
          have HB6 : Hid (Below W.heap.size W w6) := Lib.hid ((Below.drew HB1.out).trans (hb6.mono HB1.out.size))
          have HRD := Lib.hid hrd
          have HJ6 := Lib.hid (HJ.out.below hz4 HB6.out)
          have c6 := HJ6.out.c0.cell 0
          have c6 : w6.cell? ⟨w.heap.size, 0, none⟩ = some (.slice va m vc) := c6
          clear hrd hb6
          refine hK.out _ _ trivial (fun _ => ?_)
          clear hK K
          try simp only [Act.put, List.setIfInBounds_toArray, List.set_cons_zero, List.set_cons_succ]
          refine wpAnyH_ready (rs := [0]) (by kernel_rfl) (by simp) ?_
          refine AllReadyH.cons rfl (fun K hK => ?_) ?_
          rotate_left
          · exact AllReadyH.nil
          go_simp
          refine hK.out _ _ trivial (fun _ => ?_)
          clear hK K
          try simp only [Act.put, List.setIfInBounds_toArray, List.set_cons_zero, List.set_cons_succ]
          refine wpAnyH_ready (rs := [4]) (by kernel_rfl) (by simp) ?_
          refine AllReadyH.cons rfl (fun K hK => ?_) ?_
          rotate_left
          · exact AllReadyH.nil
          refine step_appE 32 5 (.int .u8 0) 1 1 Tryz.underlying32 infoU8 rfl (by decide) (by decide) w6 rfl _ _ rfl (w5.heap.size + 2) (.slice va m vc) m (u8B code) rfl (HM.out ▸ HJ6.out.row) la 4 lc (u8B (le4 en)) rfl HRD.out (u8B_one _) (by omega) (Nat.le_trans hsz HB6.out.size) ?_
          intro a7 c7 w7 hown7 hg7 hob7
          have HO7 := Lib.hid hown7
          have HG7 := Lib.hid hg7
          have hbz := (HJ6.out.c0.grown hg7 (fun e => by have := (HJ6.out.row.lt _ e).1; omega))
          have q7 := hbz.cell 0
          have f7 := hbz.frozen 0
          clear hown7 hg7 hob7 hbz
          refine hK.out _ _ trivial (fun _ => ?_)
          clear hK K
          try simp only [Act.put, List.setIfInBounds_toArray, List.set_cons_zero, List.set_cons_succ]
          refine wpAnyH_ready (rs := [5]) (by kernel_rfl) (by simp) ?_
          refine AllReadyH.cons rfl (fun K hK => ?_) ?_
          rotate_left
          · exact AllReadyH.nil
          go_simp
          refine hK.out _ _ trivial (fun _ => ?_)
          clear hK K
          try simp only [Act.put, List.setIfInBounds_toArray, List.set_cons_zero, List.set_cons_succ]
          refine wpAnyH_done (by kernel_rfl) ?_ _
          simp only [OnlyN, Exit.then, Exit.inBlock]
          have hlen : (code ++ le4 en).length = m + 4 := by rw [List.length_append, HM.out]; rfl
          have hown : w7.ownsRow (w5.heap.size + 2) 5 1 (.slice a7 (m + 4) c7) (code ++ le4 en).length (u8B (code ++ le4 en)) := by rw [hlen, u8B_app]; exact HO7.out
          have hs6 : W0.heap.size ≤ w6.heap.size := Nat.le_trans (by omega) (Nat.le_trans hsz HB6.out.size)
          refine ⟨((others_below HB6.out).trans ((others_row HJ6.out.row HG7.out).trans (KeepsOthers.setCell _ _ _))).from _, (KC.of_below HB6.out HJ.out.bel.size).trans ((KC.row HJ6.out.row HG7.out (by omega) HJ6.out.bel.size).trans (KC.set w7 w.heap.size 0 _ (Nat.le_refl _) (Or.inl rfl))), code ++ le4 en, _, k, ?_, by rw [hlen, List.length_append]; show m + 4 ≤ 4 * (pre.length + 1); omega, ?_, HJ6.out.app hz4 (by omega) hown HG7.out⟩
          · rw [HVS.out]; exact goN_insstep HGO.out HLE.out HAE.out
          · show w5.heap.size + 2 ≤ (w7.setCell _ _).heap.size
            rw [show (w7.setCell ⟨w.heap.size, 0, none⟩ (.slice a7 (m + 4) c7)).heap.size = w7.heap.size from Array.size_modify]
            exact Nat.le_trans (by omega) HG7.out.size
  case done =>
    rintro D ys W hD rfl ⟨code, v, k, hgo, -, hsz, hJ⟩ hKD
    rw [HXS.out] at hgo
    have HGO := Lib.hid hgo
    obtain ⟨va, vc, rfl, -⟩ := own_slice hJ.row
    have c0 := hJ.c0.cell 0
    have c0 : W.cell? ⟨w.heap.size, 0, none⟩ = some (.slice va code.length vc) := c0
    have c1 := hJ.c1.cell 0
    have c2 : W.cell? ⟨w.heap.size + 1 + 1, 0, none⟩ = _ := hJ.c2.cell 0
    have f0 := hJ.c0.frozen 0
    have f1 := hJ.c1.frozen 0
    have f2 : W.frozen? ⟨w.heap.size + 1 + 1, 0, none⟩ = false := hJ.c2.frozen 0
    have HJ := Lib.hid hJ
    have HKD := Lib.hid hKD
    clear hKD hgo
    go_wp2_with fail
    have hj := ((hJ.set0 hz4 hJ.row).set1 hz4 (.int .i64 ((0 : Nat) : Int))).set2 hz4 (.int .i64 0)
    have hk : (((W.setCell ⟨w.heap.size, 0, none⟩ (.slice va code.length vc)).setCell ⟨w.heap.size + 1, 0, none⟩ (.int .i64 ((0 : Nat) : Int))).setCell ⟨w.heap.size + 1 + 1, 0, none⟩ (.int .i64 0)).heap[D]? = some (.deferred (some [])) :=
      (Below.heap_setCell _ _ _ _ (show D ≠ w.heap.size + 1 + 1 by omega)).trans ((Below.heap_setCell _ _ _ _ (show D ≠ w.heap.size + 1 by omega)).trans ((Below.heap_setCell _ _ _ _ (show D ≠ w.heap.size by omega)).trans HKD.out))
    refine ⟨by simp, .inl ⟨D, _, rfl, run_takeDeferred hk, ?_⟩⟩
    have hD' : w5.heap.size + 2 ≤ D := by omega
    exact leaves_plain (pro_res (hj.kept hz4 (grownBy_putObj' _ D (.deferred none)) (fun r e => by cases e; exact ⟨hD', _, hk, rfl⟩)) _ rfl rfl rfl) (by rw [HXS.out, HGO.out]; exact pro_post hj hz4 hD' hk)
  case stop =>
    rintro D c pre W hD hpre ⟨rfl, n', e, k, hgo, he, hj⟩ hKD
    obtain ⟨r, hr⟩ := hpre
    have hfin : goN all all [] = ([], n', e) := by
      have h1 : all = vals pre ++ vals r := by rw [← HXS.out, ← hr]; unfold vals; rw [List.map_append]
      have h2 := goN_err (vals r) _ _ _ _ _ he hgo
      rw [← h1] at h2
      exact h2
    rw [hfin]
    have HJ := Lib.hid hj
    have HKD := Lib.hid hKD
    clear hj hKD hgo hfin hr
    gi_wp2
    refine ⟨by simp, .inl ⟨D, _, rfl, run_takeDeferred HKD.out, ?_⟩⟩
    have hD' : w5.heap.size + 2 ≤ D := by omega
    exact leaves_plain (pro_res (HJ.out.kept hz4 (grownBy_putObj' _ D (.deferred none)) (fun r e => by cases e; exact ⟨hD', _, HKD.out, rfl⟩)) _ rfl rfl rfl) (pro_post HJ.out hz4 hD' HKD.out)
theorem program_any (s : List UInt8) (w : World) (hn : NA w) (hl : s.length < 1000000) :
    Calls Tryz.prog 17 #[.string ⟨s.toArray⟩] w (ProPost (progX s) w) := by
  unfold progX
  by_cases h : 4000 < s.length
  · rw [if_pos h]; exact prog_long s w h hl
  · rw [if_neg h]
    have := prog_short s w hn (by omega)
    rw [vals_lines s (by omega)] at this
    exact this
end Go.Proofs.YtdpmihlmfephiaaGreatDoor

namespace Go.Proofs.YtdpmihlmfephiaaGreatDoor
set_option linter.unusedVariables false
set_option linter.unusedSimpArgs false
open Go.Joins Go.ChangeShapes Go.WideShapes Go.ChangeAt Go.RowKit Go.Deep

theorem bSize : (Tryz.prog.info? 76).map (·.size) = some 2 := by kernel_rfl
theorem bLies : liesAt Tryz.prog Tryz.prog.depth 76 (2 / Tryz.prog.cellsOf 76) 0 76 1 = true := by kernel_rfl
set_option maxHeartbeats 1000000 in
set_option maxRecDepth 100000 in
theorem copy_used (b : Nat) (w : World) (h0 : w.cell? ⟨b, 0, none⟩ = some (.pointer (some ⟨b, 0, none⟩))) :
    Calls Tryz.prog 90 #[.pointer (some ⟨b, 0, none⟩)] w fun e w' => e = .returned (.tuple #[]) ∧ w' = w := by
  obtain ⟨j, hj, _⟩ := Option.map_eq_some_iff.1 bSize
  go_enter Tryz.func90, Tryz.ntmps90
  go_wp2
  rw [Lib.run_neq_ptr_same w _ Tryz.underlying74 hj]
  go_wp2
  go_end0
  exact ⟨rfl, rfl⟩
set_option maxHeartbeats 1000000 in
set_option maxRecDepth 100000 in
theorem copy_fresh (b : Nat) (w : World) (h0 : w.cell? ⟨b, 0, none⟩ = some (.pointer none)) (hsh : w.shape? b = some (76, 2)) (hfz : w.frozen? ⟨b, 0, none⟩ = false) :
    Calls Tryz.prog 90 #[.pointer (some ⟨b, 0, none⟩)] w fun e w' => e = .returned (.tuple #[]) ∧ w' = w.setCell ⟨b, 0, none⟩ (.pointer (some ⟨b, 0, none⟩)) := by
  obtain ⟨j, hj, hjs⟩ := Option.map_eq_some_iff.1 bSize
  go_enter Tryz.func90, Tryz.ntmps90
  go_wp2
  rw [Lib.run_to_unsafe w ⟨b, 0, none⟩ Tryz.underlying74 Tryz.underlying135 hj (by rw [hjs]; decide) hsh (Nat.zero_lt_succ 1)]
  simp only [Result.andThen]
  rw [Oper.upon_value]
  go_wp2
  rw [run_callFunc_extern Tryz.func121 (by kernel_rfl) (by kernel_rfl) (by kernel_rfl) (e := Extern.AbiNoEscape.same) (by kernel_rfl)]
  rw [Lib.run_noEscape]
  simp only [Result.andThen]
  rw [Oper.upon_value]
  go_wp2
  rw [Lib.run_from_unsafe w ⟨b, 0, none⟩ Tryz.underlying135 Tryz.underlying74 hj hsh bLies]
  simp only [Result.andThen]
  rw [Oper.upon_value]
  go_wp2
  go_end0
  exact ⟨rfl, rfl⟩
theorem copy_any (B b : Nat) (bs : List Value) (w : World) (h : Lib.IsBuilder 76 5 B b bs w) :
    Calls Tryz.prog 90 #[.pointer (some ⟨b, 0, none⟩)] w fun e w' => e = .returned (.tuple #[]) ∧ Lib.BuilderAt 76 5 B b (.pointer (some ⟨b, 0, none⟩)) bs w' ∧ Below B w w' := by
  rcases h with h | h
  · refine (copy_fresh b w h.cell0 h.shape h.frozen0).mono ?_
    rintro e w' ⟨rfl, rfl⟩
    exact ⟨rfl, h.used _, (Below.refl B w).setCell (p := ⟨b, 0, none⟩) h.1 _⟩
  · refine (copy_used b w h.cell0).mono ?_
    rintro e w' ⟨rfl, rfl⟩
    exact ⟨rfl, h, Below.refl B _⟩
theorem strCells_mk (l : List UInt8) : Lib.strCells ⟨l.toArray⟩ = u8B l := by
  unfold Lib.strCells u8B
  simp
set_option maxHeartbeats 2000000 in
set_option maxRecDepth 100000 in
theorem write_any (B b : Nat) (bs l : List UInt8) (w : World) (h : Lib.IsBuilder 76 5 B b (u8B bs) w) (hlen : bs.length + l.length ≤ 1000000) (hBw : B ≤ w.heap.size) :
    Calls Tryz.prog 53 #[.pointer (some ⟨b, 0, none⟩), .string ⟨l.toArray⟩] w fun e w' => e = .returned (.tuple #[.int .i64 l.length, .nilIface]) ∧ Lib.IsBuilder 76 5 B b (u8B (bs ++ l)) w' ∧ Below B w w' := by
  obtain ⟨i0, hi, hz0, hz1, hz2⟩ := info_parts infoU8
  have hls : (⟨l.toArray⟩ : ByteArray).size = l.length := mk_size l
  obtain ⟨s, hs⟩ : ∃ s : ByteArray, s = ⟨l.toArray⟩ := ⟨_, rfl⟩
  have hsc : Lib.strCells s = u8B l := by rw [hs]; exact strCells_mk l
  rw [← hs] at hls ⊢
  rw [u8B_app, ← hsc, ← hls]
  have hn := u8B_len bs
  obtain ⟨xs, hxs⟩ : ∃ xs, u8B bs = xs := ⟨_, rfl⟩
  rw [hxs] at h hn ⊢
  have hlen : xs.length + s.size ≤ 1000000 := by omega
  have HC := Lib.hid (copy_any B b xs w h)
  clear h hxs hsc hs hn hls
  go_enter Tryz.func53, Tryz.ntmps53
  go_wp2_with (go_at_call 90; refine HC.out.mono ?_)
  rintro e w1 ⟨rfl, h1, hb1⟩
  obtain ⟨hB, v, hbk, hown, hne⟩ := h1
  have c0 : w1.cell? ⟨b, 0, none⟩ = some (.pointer (some ⟨b, 0, none⟩)) := by rw [Lib.cell_of_heap hbk]; rfl
  have c1 : w1.cell? ⟨b, 1, none⟩ = some v := by rw [Lib.cell_of_heap hbk]; rfl
  go_wp2_with (refine Lib.wpList_append_own_string _ rfl _ _ 32 9 rfl B 5 i0 Tryz.underlying32 Tryz.underlying9 hi hz0 hz1 hz2 _ _ _ rfl hown s rfl ?c3 ?c4 ?c5 ?_)
  case c3 => unfold maxLen; omega
  case c4 => omega
  case c5 => have := hb1.size; omega
  intro v' w2 hown' hgrow _
  have hlt : b < w1.heap.size := (Array.getElem?_eq_some_iff.1 hbk).1
  have hb2 : w2.heap[b]? = some (.cells #[.pointer (some ⟨b, 0, none⟩), v] 76 (0, 0)) := by
    rw [hgrow.block b hlt (fun e => hne e.symm)]
    exact hbk
  have d0 : w2.cell? ⟨b, 0, none⟩ = some (.pointer (some ⟨b, 0, none⟩)) := by rw [Lib.cell_of_heap hb2]; rfl
  have d1 : w2.cell? ⟨b, 1, none⟩ = some v := by rw [Lib.cell_of_heap hb2]; rfl
  have f1 : w2.frozen? ⟨b, 1, none⟩ = false := Lib.frozen_of_heap hb2 1
  obtain ⟨ao, n', cap, rfl⟩ : ∃ ao n' cap, v' = .slice ao n' cap := by
    rcases hown'.2 with ⟨hv, _⟩ | ⟨g, cap, cur, hv, _⟩
    · exact ⟨_, _, _, hv⟩
    · exact ⟨_, _, _, hv⟩
  go_wp2
  go_ret2
  refine ⟨rfl, Or.inr ?_, ?_⟩
  · exact Lib.BuilderAt.put (T := 76) (e := 5) hB hb2 (bs' := xs ++ Lib.strCells s) (by simpa [Lib.strCells_length] using hown') (by decide)
  · exact (hb1.grown hgrow (by have := hb1.size; omega) (fun k hk => (hown.lt k hk).1)).setCell (p := ⟨b, 1, none⟩) hB _
end Go.Proofs.YtdpmihlmfephiaaGreatDoor

