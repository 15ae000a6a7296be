/- Links: cells, reads, append. -/
import Derived.Test.YthammjpadbbflaaLkQ
import Derived.Test.YthammjpadbbflaaLkU
namespace Go.Proofs.Ythammjpadbbflaa
set_option linter.unusedVariables false
set_option linter.unusedSimpArgs false
open Go.Joins Go.ChangeShapes Go.WideShapes Go.ChangeAt Go.RowKit Go.Deep

structure Lnk where
  o : Int
  r : Int
  t : Int
  s : Int
deriving DecidableEq
def lnkC (x : Lnk) : List Value := [.int .i64 x.o, .int .i64 x.r, .int .i64 x.t, .int .i64 x.s]
def lnksC (l : List Lnk) : List Value := l.flatMap lnkC
theorem lnksC_len (l : List Lnk) : (lnksC l).length = l.length * 4 := by
  induction l with
  | nil => rfl
  | cons s l ih => simp only [lnksC, List.flatMap_cons, List.length_append, List.length_cons] at ih ⊢; rw [ih]; simp [lnkC]; omega
theorem lnksC_get (l : List Lnk) (k : Nat) (hk : k < l.length) (j : Nat) (hj : j < 4) : (lnksC l)[k * 4 + j]? = (lnkC l[k])[j]? := by
  induction l generalizing k with
  | nil => simp at hk
  | cons s l ih =>
    have e : (lnkC s).length = 4 := rfl
    simp only [lnksC, List.flatMap_cons]
    rcases Nat.eq_zero_or_pos k with rfl | hp
    · rw [List.getElem?_append_left (by omega)]; simp
    · obtain ⟨k, rfl⟩ : ∃ q, k = q + 1 := ⟨k - 1, by omega⟩
      rw [List.getElem?_append_right (by omega), e, show (k + 1) * 4 + j - 4 = k * 4 + j by omega]
      simp only [List.getElem_cons_succ]
      exact ih k (by simpa using hk)
theorem lnksC_one (l : List Lnk) : ∀ u ∈ lnksC l, u.oneCell' = true := by
  intro u hu
  simp only [lnksC, List.mem_flatMap] at hu
  obtain ⟨s, _, hs⟩ := hu
  simp only [lnkC, List.mem_cons, List.not_mem_nil, or_false] at hs
  rcases hs with rfl | rfl | rfl | rfl <;> rfl
theorem lnksC_append (l r : List Lnk) : lnksC (l ++ r) = lnksC l ++ lnksC r := by simp [lnksC]
/-- the slice of address a reads as these links -/
def RdK (w : World) (a : Option Addr) (l : List Lnk) : Prop := Rd w a (l.length * 4) (lnksC l)
theorem RdK.below {w w' : World} {a : Option Addr} {l : List Lnk} (h : RdK w a l) (hb : Below w.heap.size w w') : RdK w' a l := Rd.below h hb
theorem RdK.at_ {w : World} {a : Option Addr} {l : List Lnk} (h : RdK w a l) {k : Nat} (hk : k < l.length) : ∃ b off, a = some ⟨b, off, none⟩ ∧ b < w.heap.size ∧ w.cell? ⟨b, off + k * 4, none⟩ = some (.int .i64 l[k].o) ∧ w.cell? ⟨b, off + k * 4 + 1, none⟩ = some (.int .i64 l[k].r) ∧ w.cell? ⟨b, off + k * 4 + 2, none⟩ = some (.int .i64 l[k].t) ∧ w.cell? ⟨b, off + k * 4 + 3, none⟩ = some (.int .i64 l[k].s) := by
  obtain ⟨b, off, e, hl, hc⟩ := h.2 (by omega)
  refine ⟨b, off, e, hl, ?_, ?_, ?_, ?_⟩
  · exact (hc (k * 4) (by omega)).trans (lnksC_get l k hk 0 (by omega))
  · rw [Nat.add_assoc]; exact (hc (k * 4 + 1) (by omega)).trans (lnksC_get l k hk 1 (by omega))
  · rw [Nat.add_assoc]; exact (hc (k * 4 + 2) (by omega)).trans (lnksC_get l k hk 2 (by omega))
  · rw [Nat.add_assoc]; exact (hc (k * 4 + 3) (by omega)).trans (lnksC_get l k hk 3 (by omega))
theorem RdK.nil (w : World) (a : Option Addr) : RdK w a [] := ⟨rfl, fun h => absurd h (by simp)⟩
theorem RdK.of_own {w : World} {B : Nat} {a : Option Addr} {n c : Nat} {l : List Lnk} (h : w.ownsRow B 51 4 (.slice a n c) n (lnksC l)) : RdK w a l ∧ l.length = n := by
  have hl : l.length = n := by have := h.1; rw [lnksC_len] at this; omega
  subst hl
  refine ⟨⟨lnksC_len l, fun h0 => ?_⟩, rfl⟩
  rcases h.2 with ⟨-, e⟩ | ⟨g, cap, cur, e, hB, hg, h1, h2, h3, h4⟩
  · omega
  · cases e
    refine ⟨g, 0, rfl, (Array.getElem?_eq_some_iff.1 hg).1, fun k hk => ?_⟩
    rw [Nat.zero_add]
    exact h.cellAt k hk
theorem infoLnk : (Try.prog.info? 51).map (fun i => (i.zero, i.size, i.bytes)) = some (some (.agg #[.int .i64 0, .int .i64 0, .int .i64 0, .int .i64 0]), 4, 32) := by kernel_rfl
theorem rdk_one (w : World) (x : Lnk) (t : TypeId) : RdK (w.alloc (.cells #[.int .i64 x.o, .int .i64 x.r, .int .i64 x.t, .int .i64 x.s] t)) (some ⟨w.heap.size, 0, none⟩) [x] := Rd.lit w #[.int .i64 x.o, .int .i64 x.r, .int .i64 x.t, .int .i64 x.s] t (by show 4 ≤ maxLen; decide)
theorem run_appL (w : World) (ty : TypeId) (B : Nat) (v : Value) (n : Nat) (xs : List Lnk) (hown : w.ownsRow B 51 4 v n (lnksC xs)) (am : Option Addr) (m c : Nat) (ys : List Lnk) (hr : RdK w am ys) (hm : ys.length = m) (hnm : n + m ≤ 1000000) (hB : B ≤ w.heap.size) :
    ∃ a' c' w', (Builtin.append_ #[49, 49] ty #[v, .slice am m c]).run Try.prog w = .ok (.slice a' (n + m) c') w' ∧ w'.ownsRow B 51 4 (.slice a' (n + m) c') (n + m) (lnksC (xs ++ ys)) ∧ w.grownBy w' v.ownBlock ∧ ((Value.slice a' (n + m) c').ownBlock = v.ownBlock ∨ (Value.slice a' (n + m) c').ownBlock = some w.heap.size) := by
  subst hm
  obtain ⟨i0, hi, hz0, hz1, hz2⟩ := info_parts infoLnk
  cases am with
  | none =>
    have hy : ys = [] := by
      rcases Nat.eq_zero_or_pos ys.length with h | h
      · exact List.eq_nil_of_length_eq_zero h
      · obtain ⟨b, off, e, -⟩ := hr.2 (by omega); cases e
    subst hy
    obtain ⟨a', c', rfl, -⟩ := own_slice hown
    refine ⟨a', c', w, ?_, by simpa using hown, ⟨rfl, rfl, rfl, Nat.le_refl _, fun _ _ _ => rfl⟩, Or.inl rfl⟩
    rcases hown.2 with ⟨h1, rfl⟩ | ⟨g, cap, cur, h1, _, _, hnc, _⟩
    · cases h1
      simp [Builtin.append_, run_underlying Try.underlying49, sizeOf, typeInfo, hi, Builtin.lenOf, Builtin.firstCells]
    · cases h1
      simp [Builtin.append_, run_underlying Try.underlying49, sizeOf, typeInfo, hi, Builtin.lenOf, Builtin.firstCells, hnc, storeCells]
  | some ad =>
    have hl : (lnksC ys).length = ys.length * 4 := lnksC_len ys
    have hnews : ∀ j u, (lnksC ys)[j]? = some u → w.cell? (ad.add j) = some u := by
      intro j u hj
      have hjm : j < ys.length * 4 := by
        have := (List.getElem?_eq_some_iff.1 hj).1
        rw [hl] at this; exact this
      obtain ⟨b, off, e, -, hc⟩ := Rd.at_ hr hjm
      cases e
      rw [hj] at hc
      rw [add_plain]
      exact hc
    obtain ⟨v', w', h2, h3, h4, -, h5⟩ := run_append_own_at (P := Try.prog) w B 49 ty 51 i0 (.agg #[.int .i64 0, .int .i64 0, .int .i64 0, .int .i64 0]) 4 32 Try.underlying49 hi hz0 hz1 hz2 rfl (by decide) v n (lnksC xs) hown ad ys.length c (lnksC ys) hl hnews (lnksC_one ys) (by unfold maxLen; omega) (by omega) hB
    obtain ⟨a', c', rfl, -⟩ := own_slice h3
    exact ⟨a', c', w', h2, by rw [lnksC_append]; exact h3, h4, h5⟩
theorem wp_appL (w : World) {o : Oper} {a : Act} {K : Act → World → Prop} {Q : Exit → Act → World → Prop} (s x : Operand) (ho : o.op = .call { callee := .builtin .append, args := #[s, x], argTypes := #[49, 49] })
    (B : Nat) (v : Value) (n : Nat) (xs : List Lnk) (hs : a.eval s = v) (hown : w.ownsRow B 51 4 v n (lnksC xs)) (am : Option Addr) (m c : Nat) (ys : List Lnk) (hx : a.eval x = .slice am m c) (hr : RdK w am ys) (hm : ys.length = m) (hnm : n + m ≤ 1000000) (hB : B ≤ w.heap.size)
    (h : ∀ a' c' w', w'.ownsRow B 51 4 (.slice a' (n + m) c') (n + m) (lnksC (xs ++ ys)) → w.grownBy w' v.ownBlock → ((Value.slice a' (n + m) c').ownBlock = v.ownBlock ∨ (Value.slice a' (n + m) c').ownBlock = some w.heap.size) → K (a.put o.dst (.slice a' (n + m) c')) w') : o.wp Try.prog a w K Q := by
  obtain ⟨a', c', w', hr, h2, h3, h4⟩ := run_appL w o.type B v n xs hown am m c ys hr hm hnm hB
  unfold Oper.wp execOp
  simp only [ho, resolve, invoke, builtin, Sem.run_bind, Sem.run_pure, Result.andThen_ok, List.map_toArray, List.map_cons, List.map_nil, hs, hx, hr]
  exact h a' c' w' h2 h3 h4
theorem wpList_appL (w : World) {ops : Array Oper} {rest : List Oper} {o : Oper} {a : Act} {Q : Exit → Act → World → Prop} (hgd : o.guard = none) (s x : Operand) (ho : o.op = .call { callee := .builtin .append, args := #[s, x], argTypes := #[49, 49] })
    (B : Nat) (v : Value) (n : Nat) (xs : List Lnk) (hs : a.eval s = v) (hown : w.ownsRow B 51 4 v n (lnksC xs)) (am : Option Addr) (m c : Nat) (ys : List Lnk) (hx : a.eval x = .slice am m c) (hr : RdK w am ys) (hm : ys.length = m) (hnm : n + m ≤ 1000000) (hB : B ≤ w.heap.size)
    (h : ∀ a' c' w', w'.ownsRow B 51 4 (.slice a' (n + m) c') (n + m) (lnksC (xs ++ ys)) → w.grownBy w' v.ownBlock → ((Value.slice a' (n + m) c').ownBlock = v.ownBlock ∨ (Value.slice a' (n + m) c').ownBlock = some w.heap.size) → wpList Try.prog ops Q rest (a.put o.dst (.slice a' (n + m) c')) w') : wpList Try.prog ops Q (o :: rest) a w :=
  wpList_plain hgd fun _ hK => wp_appL w s x ho B v n xs hs hown am m c ys hx hr hm hnm hB fun a' c' w' h2 h3 h4 => hK _ _ (h a' c' w' h2 h3 h4)
theorem step_appL (w : World) {ops : Array Oper} {o : Oper} {a : Act} {K : Act → World → Prop} {Q : Exit → Act → World → Prop} {E : Prop} (hgd : o.guard = none) (s x : Operand) (ho : o.op = .call { callee := .builtin .append, args := #[s, x], argTypes := #[49, 49] })
    (B : Nat) (v : Value) (n : Nat) (xs : List Lnk) (hs : a.eval s = v) (hown : w.ownsRow B 51 4 v n (lnksC xs)) (am : Option Addr) (m c : Nat) (ys : List Lnk) (hx : a.eval x = .slice am m c) (hr : RdK w am ys) (hm : ys.length = m) (hnm : n + m ≤ 1000000) (hB : B ≤ w.heap.size)
    (h : ∀ a' c' w', w'.ownsRow B 51 4 (.slice a' (n + m) c') (n + m) (lnksC (xs ++ ys)) → w.grownBy w' v.ownBlock → ((Value.slice a' (n + m) c').ownBlock = v.ownBlock ∨ (Value.slice a' (n + m) c').ownBlock = some w.heap.size) → K (a.put o.dst (.slice a' (n + m) c')) w') :
    if Region.wanted o (yielded ops a.tmps) = true then Oper.wp Try.prog o a w K Q else E := by
  have hw : Region.wanted o (yielded ops a.tmps) = true := by simp [Region.wanted, hgd]
  rw [if_pos hw]
  exact wp_appL w s x ho B v n xs hs hown am m c ys hx hr hm hnm hB h
theorem own_emptyL (w : World) (t : TypeId) : (w.alloc (.cells #[] 51)).ownsRow w.heap.size 51 4 (.slice (some ⟨w.heap.size, 0, none⟩) 0 0) 0 (lnksC []) := World.ownsRow_lit (base := w.heap.size) (e := 51) (size := 4) w #[] 0 (Nat.le_refl _) (by decide) rfl
theorem run_appL0 (w : World) (ty : TypeId) (B g : Nat) (hown : w.ownsRow B 51 4 (.slice (some ⟨g, 0, none⟩) 0 0) 0 (lnksC [])) (am : Option Addr) (m c : Nat) (ys : List Lnk) (hr : RdK w am ys) (hm : ys.length = m) (hnm : m ≤ 100000) (hB : B ≤ w.heap.size) :
    ∃ a' c' w', (Builtin.append_ #[49, 49] ty #[.slice (some ⟨g, 0, none⟩) 0 0, .slice am m c]).run Try.prog w = .ok (.slice a' m c') w' ∧ w'.ownsRow B 51 4 (.slice a' m c') m (lnksC ys) ∧ Below w.heap.size w w' ∧ ((Value.slice a' m c').ownBlock = some g ∨ (Value.slice a' m c').ownBlock = some w.heap.size) := by
  subst hm
  obtain ⟨i0, hi, hz0, hz1, hz2⟩ := info_parts infoLnk
  have hlen : (lnksC ys).length = ys.length * 4 := lnksC_len ys
  rcases Nat.eq_zero_or_pos ys.length with h0 | hpos
  · have hy : ys = [] := List.eq_nil_of_length_eq_zero h0
    subst hy
    have hs : Src Try.prog i0.size 49 (.slice am 0 c) 0 [] w := by
      cases am with
      | none => exact Src.ofNil w Try.underlying49 c
      | some ad => exact Src.ofSlice w Try.underlying49 ad 0 c [] (by simp) (by simp) (by simp)
    have h := run_append_room_src w 49 49 ty 51 i0 Try.underlying49 hi g 0 0 0 (.slice am 0 c) 0 [] hs (by omega) (by simp) (by simp)
    exact ⟨some ⟨g, 0, none⟩, 0, w, h, hown, Below.refl _ _, Or.inl rfl⟩
  · obtain ⟨b, off, rfl, hlt, hc⟩ := hr.2 (by omega)
    have hs : Src Try.prog i0.size 49 (.slice (some ⟨b, off, none⟩) ys.length c) ys.length (lnksC ys) w := by
      refine Src.ofSlice w Try.underlying49 ⟨b, off, none⟩ ys.length c (lnksC ys) (by rw [hz1, hlen]) (fun j u hj => ?_) (lnksC_one ys)
      have hjm : j < ys.length * 4 := by rw [← hlen]; exact (List.getElem?_eq_some_iff.1 hj).1
      have := hc j hjm
      rw [hj] at this
      rw [← this, Addr.add_lit]
    have hold : (Builtin.firstCells i0.size 0 (.slice (some ⟨g, 0, none⟩) 0 0)).run Try.prog w.drew = .ok ([] : List Value).toArray w.drew :=
      run_firstCells_some w.drew i0.size 0 ⟨g, 0, none⟩ 0 0 [] (by simp) (by simp)
    have h := run_append_grow_src w 49 49 ty 51 i0 (.agg #[.int .i64 0, .int .i64 0, .int .i64 0, .int .i64 0]) Try.underlying49 hi hz0 (some ⟨g, 0, none⟩) 0 0 [] hold (.slice (some ⟨b, off, none⟩) ys.length c) ys.length (lnksC ys) hs (by omega) (by omega)
      (growslice_fits_wide (by omega) (by rw [hz2]; omega))
    rw [Nat.zero_add, List.nil_append] at h
    have hge := grownCap_ge w ys.length 0 51
    refine ⟨_, _, _, h, ⟨hlen, .inr ⟨w.heap.size, _, _, rfl, hB, heap_alloc_new w.drew _, hge, grownCap_le_maxLen w ys.length 0 51 (by unfold maxLen; omega), ?_, ?_⟩⟩, (Below.drew (Below.refl _ _)).alloc (Nat.le_refl _) _, Or.inr rfl⟩
    · rw [Array.size_append, size_zeroCells, List.size_toArray, hlen]
      simp [Value.cells]
      omega
    · rw [Array.toList_append, List.take_append_of_le_length (by simp [hlen]), List.take_of_length_le (by simp [hlen])]
theorem wp_appL0 (w : World) {o : Oper} {a : Act} {K : Act → World → Prop} {Q : Exit → Act → World → Prop} (s x : Operand) (ho : o.op = .call { callee := .builtin .append, args := #[s, x], argTypes := #[49, 49] })
    (B g : Nat) (hs : a.eval s = .slice (some ⟨g, 0, none⟩) 0 0) (hown : w.ownsRow B 51 4 (.slice (some ⟨g, 0, none⟩) 0 0) 0 (lnksC [])) (am : Option Addr) (m c : Nat) (ys : List Lnk) (hx : a.eval x = .slice am m c) (hr : RdK w am ys) (hm : ys.length = m) (hnm : m ≤ 100000) (hB : B ≤ w.heap.size)
    (h : ∀ a' c' w', w'.ownsRow B 51 4 (.slice a' m c') m (lnksC ys) → Below w.heap.size w w' → ((Value.slice a' m c').ownBlock = some g ∨ (Value.slice a' m c').ownBlock = some w.heap.size) → K (a.put o.dst (.slice a' m c')) w') : o.wp Try.prog a w K Q := by
  obtain ⟨a', c', w', hr, h2, h3, h4⟩ := run_appL0 w o.type B g hown am m c ys hr hm hnm hB
  unfold Oper.wp execOp
  simp only [ho, resolve, invoke, builtin, Sem.run_bind, Sem.run_pure, Result.andThen_ok, List.map_toArray, List.map_cons, List.map_nil, hs, hx, hr]
  exact h a' c' w' h2 h3 h4
theorem wpList_appL0 (w : World) {ops : Array Oper} {rest : List Oper} {o : Oper} {a : Act} {Q : Exit → Act → World → Prop} (hgd : o.guard = none) (s x : Operand) (ho : o.op = .call { callee := .builtin .append, args := #[s, x], argTypes := #[49, 49] })
    (B g : Nat) (hs : a.eval s = .slice (some ⟨g, 0, none⟩) 0 0) (hown : w.ownsRow B 51 4 (.slice (some ⟨g, 0, none⟩) 0 0) 0 (lnksC [])) (am : Option Addr) (m c : Nat) (ys : List Lnk) (hx : a.eval x = .slice am m c) (hr : RdK w am ys) (hm : ys.length = m) (hnm : m ≤ 100000) (hB : B ≤ w.heap.size)
    (h : ∀ a' c' w', w'.ownsRow B 51 4 (.slice a' m c') m (lnksC ys) → Below w.heap.size w w' → ((Value.slice a' m c').ownBlock = some g ∨ (Value.slice a' m c').ownBlock = some w.heap.size) → wpList Try.prog ops Q rest (a.put o.dst (.slice a' m c')) w') : wpList Try.prog ops Q (o :: rest) a w :=
  wpList_plain hgd fun _ hK => wp_appL0 w s x ho B g hs hown am m c ys hx hr hm hnm hB fun a' c' w' h2 h3 h4 => hK _ _ (h a' c' w' h2 h3 h4)
theorem step_appL0 (w : World) {ops : Array Oper} {o : Oper} {a : Act} {K : Act → World → Prop} {Q : Exit → Act → World → Prop} {E : Prop} (hgd : o.guard = none) (s x : Operand) (ho : o.op = .call { callee := .builtin .append, args := #[s, x], argTypes := #[49, 49] })
    (B g : Nat) (hs : a.eval s = .slice (some ⟨g, 0, none⟩) 0 0) (hown : w.ownsRow B 51 4 (.slice (some ⟨g, 0, none⟩) 0 0) 0 (lnksC [])) (am : Option Addr) (m c : Nat) (ys : List Lnk) (hx : a.eval x = .slice am m c) (hr : RdK w am ys) (hm : ys.length = m) (hnm : m ≤ 100000) (hB : B ≤ w.heap.size)
    (h : ∀ a' c' w', w'.ownsRow B 51 4 (.slice a' m c') m (lnksC ys) → Below w.heap.size w w' → ((Value.slice a' m c').ownBlock = some g ∨ (Value.slice a' m c').ownBlock = some w.heap.size) → K (a.put o.dst (.slice a' m c')) w') :
    if Region.wanted o (yielded ops a.tmps) = true then Oper.wp Try.prog o a w K Q else E := by
  have hw : Region.wanted o (yielded ops a.tmps) = true := by simp [Region.wanted, hgd]
  rw [if_pos hw]
  exact wp_appL0 w s x ho B g hs hown am m c ys hx hr hm hnm hB h
end Go.Proofs.Ythammjpadbbflaa
