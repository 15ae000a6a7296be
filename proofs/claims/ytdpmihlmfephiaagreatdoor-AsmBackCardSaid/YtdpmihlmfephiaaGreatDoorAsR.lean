/- A program's code, line by line: plain mathematics; a region of a round that draws its order. -/
import Derived.Deep.RegionHeld3
import Derived.OrdersIn
import Derived.Test.YtdpmihlmfephiaaGreatDoorAsP
namespace Go.Proofs.YtdpmihlmfephiaaGreatDoor
set_option linter.unusedVariables false
set_option linter.unusedSimpArgs false
open Go.Joins Go.ChangeShapes Go.WideShapes Go.ChangeAt Go.RowKit Go.Deep Go.Shelf

theorem asm_err {all : List (Nat × List UInt8)} {s : List UInt8} {p : Nat} {e : Int} (h : asmN all s p = .inl e) : e = 50 ∨ e = 51 := by
  unfold asmN at h
  split at h
  · split at h
    · cases h; exact .inl rfl
    · split at h
      · cases h; exact .inr rfl
      · split at h
        · cases h; exact .inl rfl
        · cases h
  · split at h
    · cases h; exact .inl rfl
    · cases h
theorem goN_lab {all : List (Nat × List UInt8)} {x : Nat × List UInt8} {o : List UInt8} (r : List (Nat × List UInt8)) (code : List UInt8) (h : labelF x.2 = some o) : goN all (x :: r) code = if (lookN o all 0).map (·.1) = some x.1 then goN all r code else ([], x.1, 51) := by
  simp only [goN, h]
theorem goN_ins {all : List (Nat × List UInt8)} {x : Nat × List UInt8} (r : List (Nat × List UInt8)) (code : List UInt8) (h : labelF x.2 = none) : goN all (x :: r) code = match asmN all x.2 code.length with
      | .inl e => ([], x.1, e)
      | .inr w => goN all r (code ++ le4 w) := by
  simp only [goN, h]
  cases asmN all x.2 code.length <;> rfl
theorem goN_ok {all : List (Nat × List UInt8)} (r : List (Nat × List UInt8)) : ∀ (l : List (Nat × List UInt8)) (code c : List UInt8), goN all l code = (c, 0, 0) → goN all (l ++ r) code = goN all r c
  | [], code, c, h => by
    simp only [goN, Prod.mk.injEq, and_true] at h
    rw [List.nil_append, h]
  | x :: l, code, c, h => by
    rw [List.cons_append]
    cases hl : labelF x.2 with
    | some o =>
      rw [goN_lab _ _ hl] at h ⊢
      split at h
      · rename_i hq
        rw [if_pos hq]
        exact goN_ok r l code c h
      · have := congrArg (fun z => z.2.2) h
        have h51 : (51 : Int) = 0 := this
        exact absurd h51 (by decide)
    | none =>
      rw [goN_ins _ _ hl] at h ⊢
      cases ha : asmN all x.2 code.length with
      | inl e =>
        rw [ha] at h
        have := congrArg (fun z => z.2.2) h
        have he : e = 0 := this
        rcases asm_err ha with q | q <;> omega
      | inr w =>
        rw [ha] at h
        exact goN_ok r l _ c h
theorem goN_err {all : List (Nat × List UInt8)} (r : List (Nat × List UInt8)) : ∀ (l : List (Nat × List UInt8)) (code c : List UInt8) (n : Nat) (e : Int), e ≠ 0 → goN all l code = (c, n, e) → goN all (l ++ r) code = (c, n, e)
  | [], code, c, n, e, he, h => by
    simp only [goN, Prod.mk.injEq] at h
    exact absurd h.2.2.symm he
  | x :: l, code, c, n, e, he, h => by
    rw [List.cons_append]
    cases hl : labelF x.2 with
    | some o =>
      rw [goN_lab _ _ hl] at h ⊢
      split at h
      · rename_i hq
        rw [if_pos hq]
        exact goN_err r l code c n e he h
      · rename_i hq
        rw [if_neg hq]; exact h
    | none =>
      rw [goN_ins _ _ hl] at h ⊢
      cases ha : asmN all x.2 code.length with
      | inl e' => rw [ha] at h; exact h
      | inr w =>
        rw [ha] at h
        exact goN_err r l _ c n e he h
theorem goN_labstep {all l : List (Nat × List UInt8)} {x : Nat × List UInt8} {c o : List UInt8} (h : goN all l [] = (c, 0, 0)) (ho : labelF x.2 = some o) (hx : (lookN o all 0).map (·.1) = some x.1) : goN all (l ++ [x]) [] = (c, 0, 0) := by
  rw [goN_ok [x] l [] c h, goN_lab _ _ ho, if_pos hx]; rfl
theorem goN_labstop {all l : List (Nat × List UInt8)} {x : Nat × List UInt8} {c o : List UInt8} (h : goN all l [] = (c, 0, 0)) (ho : labelF x.2 = some o) (hx : (lookN o all 0).map (·.1) ≠ some x.1) : goN all (l ++ [x]) [] = ([], x.1, 51) := by
  rw [goN_ok [x] l [] c h, goN_lab _ _ ho, if_neg hx]
theorem goN_insstep {all l : List (Nat × List UInt8)} {x : Nat × List UInt8} {c : List UInt8} {w : Nat} (h : goN all l [] = (c, 0, 0)) (ho : labelF x.2 = none) (hx : asmN all x.2 c.length = .inr w) : goN all (l ++ [x]) [] = (c ++ le4 w, 0, 0) := by
  rw [goN_ok [x] l [] c h, goN_ins _ _ ho, hx]; rfl
theorem goN_insstop {all l : List (Nat × List UInt8)} {x : Nat × List UInt8} {c : List UInt8} {e : Int} (h : goN all l [] = (c, 0, 0)) (ho : labelF x.2 = none) (hx : asmN all x.2 c.length = .inl e) : goN all (l ++ [x]) [] = ([], x.1, e) := by
  rw [goN_ok [x] l [] c h, goN_ins _ _ ho, hx]
theorem lookN_le (nm : List UInt8) (y : Nat × Nat) : ∀ (l : List (Nat × List UInt8)) (a : Nat), lookN nm l a = some y → y.2 ≤ a + 4 * l.length
  | [], a, h => by simp [lookN] at h
  | x :: r, a, h => by
    rw [List.length_cons]
    simp only [lookN] at h
    split at h
    · split at h
      · cases h; simp only []; omega
      · have := lookN_le nm y r a h; omega
    · have := lookN_le nm y r (a + 4) h; omega
def u8B (l : List UInt8) : List Value := l.map fun b => Value.int .u8 (b.toNat : Int)
theorem u8B_len (l : List UInt8) : (u8B l).length = l.length := List.length_map _
theorem u8B_app (a b : List UInt8) : u8B (a ++ b) = u8B a ++ u8B b := List.map_append
theorem u8B_one (l : List UInt8) : ∀ u ∈ u8B l, u.oneCell' = true := by
  intro u hu
  obtain ⟨b, -, rfl⟩ := List.mem_map.1 hu
  rfl
theorem le4_little (w : Nat) : u8s (littleZ (w : Int) 4) = u8B (le4 w) := by
  have h : littleZ (w : Int) 4 = [byteN w 0, byteN w 1, byteN w 2, byteN w 3] := by
    unfold littleZ
    rw [if_neg (by omega)]
    rfl
  have hm : ∀ x : Nat, (UInt8.ofNat (x % 256)).toNat = x % 256 := fun x => by simp
  rw [h]
  unfold u8s u8B le4 byteN
  simp only [List.map_cons, List.map_nil, hm]
  simp [Nat.shiftRight_eq_div_pow]
/-! The lines that say something. -/
theorem numbF_snoc : ∀ (l : List (List UInt8)) (i : Nat) (y : List UInt8), numbF i (l ++ [y]) = numbF i l ++ (if y = [] then [] else [(i + l.length, y)])
  | [], i, y => by
    simp only [List.nil_append, numbF, List.length_nil, Nat.add_zero]
  | z :: r, i, y => by
    rw [List.cons_append]
    unfold numbF
    rw [numbF_snoc r (i + 1) y, List.length_cons]
    split
    · split <;> simp; omega
    · split <;> simp; omega
theorem vals_pre (L : List (List UInt8)) (hl : ∀ x ∈ L, x.length ≤ 5000) (hn : L.length ≤ 100000) : ∀ k, k ≤ L.length → vals (preX L k) = numbF 1 ((L.take k).map cleanF)
  | 0, _ => rfl
  | k + 1, h => by
    have hk : k < L.length := by omega
    have hy : (cleanF L[k]).length ≤ 5000 := Nat.le_trans (cleanF_le _) (hl _ (List.getElem_mem hk))
    have hg : L.getD k [] = L[k] := by simp [hk]
    rw [List.take_succ_eq_append_getElem hk, List.map_append, List.map_cons, List.map_nil, numbF_snoc, ← vals_pre L hl hn k (by omega), List.length_map, List.length_take, Nat.min_eq_left (by omega)]
    show vals (preX L k ++ (mkX (k + 1) (cleanF (L.getD k []))).toList) = _
    unfold vals
    rw [List.map_append, hg]
    congr 1
    by_cases he : cleanF L[k] = []
    · rw [if_pos he, he]; simp [mkX]
    · rw [if_neg he]
      unfold mkX
      rw [dif_pos ⟨by omega, hy, he⟩]
      show [(k + 1, cleanF L[k])] = _
      rw [Nat.add_comm]
theorem vals_lines (s : List UInt8) (hs : s.length ≤ 5000) : vals (xsOf s) = numbF 1 (linesF s) := by
  have h1 := split_le s [10]
  have h2 := split_len s [10]
  unfold xsOf linesF
  rw [vals_pre _ (fun x hx => Nat.le_trans (h1 x hx) hs) (by omega) _ (Nat.le_refl _), List.take_length]
def progX (s : List UInt8) : List UInt8 × Nat × Int := if 4000 < s.length then ([], 0, 2) else progF s

/-! A region of a round, by what is known of plain ones. -/
def noDefer (o : Oper) : Bool := match o.op with
  | .defer _ => false
  | _ => true
theorem noDefer_spec {o : Oper} (h : noDefer o = true) : ∀ c, o.op ≠ .defer c := fun c e => by
  unfold noDefer at h
  rw [e] at h
  cases h
theorem op_round {P : Program} {l n : Nat} {o : Oper} {a : Act} {w : World} {K : Act → World → Prop} {Q : Exit → Act → World → Prop} (hd : noDefer o = true) (h : o.wp P a w K Q) : o.wpIn (Fence.wide.inRound l) n P a w K Q := by
  refine ⟨fun f _ => trivial, ?_⟩
  rw [Oper.semAt_plain (Fence.wide.inRound l) a.eval o (noDefer_spec hd)]
  unfold Oper.wp at h
  generalize (execOp a.eval o).run P w = r at h ⊢
  cases r with
  | ok x w' =>
    cases x with
    | value v => exact h
    | skip => exact h
    | defer d => exact h
    | enter f args => exact ⟨fun e => (by cases e), CallsIn.inRound l (callsIn_wide.2 h)⟩
    | row row args => exact ⟨fun e => (by cases e), fun c cs _ => let ⟨v, w'', r, s⟩ := h c cs; ⟨v, w'', r, stepsIn_wide.2 s⟩⟩
    | round l f tmps assign body => exact h.elim
    | _ => exact h.elim
  | halt x w' => cases x <;> exact h
/-- all goes on -/
def OnlyN (K : Act → World → Prop) : Exit → Act → World → Prop
  | .normal, a, w => K a w
  | _, _, _ => False
theorem OnlyN.out {K : Act → World → Prop} : ¬ LetsOut (OnlyN K) := fun ⟨_, _, h⟩ => h
theorem OnlyN.imp {K : Act → World → Prop} {Q : Exit → Act → World → Prop} (h : ∀ a w, K a w → Q .normal a w) : ∀ (e : Exit) (a : Act) (w : World), OnlyN K e a w → Q e a w := fun e a w q => by
  cases e <;> first | exact h _ _ q | exact q.elim
theorem any_round {P : Program} {l n : Nat} {md : Region.Mode} {ops : Array Oper} {Q : Exit → Act → World → Prop} (hd : ops.all noDefer = true) (hL : ¬ LetsOut Q) : ∀ (fuel : Nat) (listed : Array Bool) (a : Act) (w : World), wpAny P md ops Q fuel listed a w → wpAnyIn (Fence.wide.inRound l) n P md ops Q fuel listed a w
  | 0, _, _, _, h => h
  | fuel + 1, listed, a, w, ⟨h0, h1⟩ => by
    refine ⟨h0, fun i hi => ?_⟩
    have h2 := h1 i hi
    unfold wpOp at h2
    unfold wpOpIn
    cases ho : ops[i]? with
    | none =>
      rw [ho] at h2
      exact any_round hd hL fuel _ _ _ h2
    | some o =>
      rw [ho] at h2
      simp only [] at h2 ⊢
      have hdo : noDefer o = true := by
        obtain ⟨hlt, he⟩ := Array.getElem?_eq_some_iff.1 ho
        have := Array.all_eq_true.1 hd i hlt
        rw [he] at this
        exact this
      by_cases hw : Region.wanted o (yielded ops a.tmps) = true
      · rw [if_pos hw] at h2 ⊢
        exact Oper.wpIn_mono (fun a w h => any_round hd hL fuel _ a w h) (op_round hdo (h2.resolve_right fun q => hL q.2))
      · rw [if_neg hw] at h2 ⊢
        exact ⟨fun f _ => trivial, any_round hd hL fuel _ _ _ h2⟩
theorem region_round {P : Program} {l n id : Nat} {ops : Array Oper} {Q : Exit → Act → World → Prop} {S : World → Prop} {a : Act} {w : World} (hm : P.follows .mixedOrders = true) (hd : ops.all noDefer = true) (hS : S w.drew)
    (h : S w.drew → wpAnyH P .any ops (OnlyN (Q .normal)) S ops.size (Array.replicate ops.size false) a w.drew) : (Code.region id ops true).wpIn (Fence.wide.inRound l) n P Q a w :=
  Code.wpIn_mono (OnlyN.imp fun _ _ h => h) (wpIn_region_any hm (any_round hd OnlyN.out _ _ _ _ (wpAny_of_held _ _ _ _ (h hS))))
theorem mixed : Tryz.prog.follows .mixedOrders = true := by kernel_rfl
end Go.Proofs.YtdpmihlmfephiaaGreatDoor
