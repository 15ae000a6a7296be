/- append of numbers, whatever is appended; to a new empty row. -/
import Derived.Test.YthammjpadbbflaaLkQ
import Derived.Deep.AppendSrc
import Derived.Deep.DeepAppendWide
import Derived.Maps.AppendAt
namespace Go.Proofs.Ythammjpadbbflaa
set_option linter.unusedVariables false
set_option linter.unusedSimpArgs false
open Go.Joins Go.ChangeShapes Go.WideShapes Go.ChangeAt Go.RowKit Go.Deep

theorem rd_one (w : World) (y : Int) (t : TypeId) : Rd (w.alloc (.cells #[.int .i64 y] t)) (some ⟨w.heap.size, 0, none⟩) 1 (i64s [y]) := Rd.lit w #[.int .i64 y] t (by show 1 ≤ maxLen; decide)
theorem run_app (w : World) (ty : TypeId) (B : Nat) (v : Value) (n : Nat) (xs : List Int) (hown : w.ownsRow B 3 1 v n (i64s xs)) (am : Option Addr) (m c : Nat) (ys : List Int) (hr : Rd w am m (i64s ys)) (hnm : n + m ≤ 1000000) (hB : B ≤ w.heap.size) :
    ∃ a' c' w', (Builtin.append_ #[23, 23] ty #[v, .slice am m c]).run Try.prog w = .ok (.slice a' (n + m) c') w' ∧ w'.ownsRow B 3 1 (.slice a' (n + m) c') (n + m) (i64s (xs ++ ys)) ∧ w.grownBy w' v.ownBlock ∧ ((Value.slice a' (n + m) c').ownBlock = v.ownBlock ∨ (Value.slice a' (n + m) c').ownBlock = some w.heap.size) := by
  obtain ⟨i0, hi, hz0, hz1, hz2⟩ := info_parts infoInt
  cases am with
  | none =>
    have h0 : m = 0 := by
      rcases Nat.eq_zero_or_pos m with h | h
      · exact h
      · obtain ⟨b, off, e, -⟩ := hr.2 h; cases e
    subst h0
    have hy : ys = [] := List.eq_nil_of_length_eq_zero (by rw [← i64s_length]; exact hr.1)
    subst hy
    obtain ⟨a', c', rfl, -⟩ := own_slice hown
    refine ⟨a', c', w, ?_, by simpa using hown, ⟨rfl, rfl, rfl, Nat.le_refl _, fun _ _ _ => rfl⟩, Or.inl rfl⟩
    rcases hown.2 with ⟨h1, rfl⟩ | ⟨g, cap, cur, h1, _, _, hnc, _⟩
    · cases h1
      simp [Builtin.append_, run_underlying Try.underlying23, sizeOf, typeInfo, hi, Builtin.lenOf, Builtin.firstCells]
    · cases h1
      simp [Builtin.append_, run_underlying Try.underlying23, sizeOf, typeInfo, hi, Builtin.lenOf, Builtin.firstCells, hnc, storeCells]
  | some ad =>
    have hl : (i64s ys).length = m * 1 := by rw [Nat.mul_one]; exact hr.1
    have hnews : ∀ j u, (i64s ys)[j]? = some u → w.cell? (ad.add j) = some u := by
      intro j u hj
      have hjm : j < m := by
        have := (List.getElem?_eq_some_iff.1 hj).1
        rw [hr.1] at this; exact this
      obtain ⟨b, off, e, -, hc⟩ := hr.at_ hjm
      cases e
      rw [hj] at hc
      rw [add_plain]
      exact hc
    have h1 : ∀ u ∈ i64s ys, u.oneCell' = true := by
      intro u hu
      simp only [i64s, List.mem_map] at hu
      obtain ⟨x, -, rfl⟩ := hu
      rfl
    obtain ⟨v', w', h2, h3, h4, -, h5⟩ := run_append_own_at (P := Try.prog) w B 23 ty 3 i0 (.int .i64 0) 1 8 Try.underlying23 hi hz0 hz1 hz2 rfl (by decide) v n (i64s xs) hown ad m c (i64s ys) hl hnews h1 (by unfold maxLen; omega) (by omega) hB
    obtain ⟨a', c', rfl, -⟩ := own_slice h3
    exact ⟨a', c', w', h2, by simpa [i64s] using h3, h4, h5⟩
theorem wp_app (w : World) {o : Oper} {a : Act} {K : Act → World → Prop} {Q : Exit → Act → World → Prop} (s x : Operand) (ho : o.op = .call { callee := .builtin .append, args := #[s, x], argTypes := #[23, 23] })
    (B : Nat) (v : Value) (n : Nat) (xs : List Int) (hs : a.eval s = v) (hown : w.ownsRow B 3 1 v n (i64s xs)) (am : Option Addr) (m c : Nat) (ys : List Int) (hx : a.eval x = .slice am m c) (hr : Rd w am m (i64s ys)) (hnm : n + m ≤ 1000000) (hB : B ≤ w.heap.size)
    (h : ∀ a' c' w', w'.ownsRow B 3 1 (.slice a' (n + m) c') (n + m) (i64s (xs ++ ys)) → w.grownBy w' v.ownBlock → ((Value.slice a' (n + m) c').ownBlock = v.ownBlock ∨ (Value.slice a' (n + m) c').ownBlock = some w.heap.size) → K (a.put o.dst (.slice a' (n + m) c')) w') : o.wp Try.prog a w K Q := by
  obtain ⟨a', c', w', hr, h2, h3, h4⟩ := run_app w o.type B v n xs hown am m c ys hr hnm hB
  unfold Oper.wp execOp
  simp only [ho, resolve, invoke, builtin, Sem.run_bind, Sem.run_pure, Result.andThen_ok, List.map_toArray, List.map_cons, List.map_nil, hs, hx, hr]
  exact h a' c' w' h2 h3 h4
theorem wpList_app (w : World) {ops : Array Oper} {rest : List Oper} {o : Oper} {a : Act} {Q : Exit → Act → World → Prop} (hgd : o.guard = none) (s x : Operand) (ho : o.op = .call { callee := .builtin .append, args := #[s, x], argTypes := #[23, 23] })
    (B : Nat) (v : Value) (n : Nat) (xs : List Int) (hs : a.eval s = v) (hown : w.ownsRow B 3 1 v n (i64s xs)) (am : Option Addr) (m c : Nat) (ys : List Int) (hx : a.eval x = .slice am m c) (hr : Rd w am m (i64s ys)) (hnm : n + m ≤ 1000000) (hB : B ≤ w.heap.size)
    (h : ∀ a' c' w', w'.ownsRow B 3 1 (.slice a' (n + m) c') (n + m) (i64s (xs ++ ys)) → w.grownBy w' v.ownBlock → ((Value.slice a' (n + m) c').ownBlock = v.ownBlock ∨ (Value.slice a' (n + m) c').ownBlock = some w.heap.size) → wpList Try.prog ops Q rest (a.put o.dst (.slice a' (n + m) c')) w') : wpList Try.prog ops Q (o :: rest) a w :=
  wpList_plain hgd fun _ hK => wp_app w s x ho B v n xs hs hown am m c ys hx hr hnm hB fun a' c' w' h2 h3 h4 => hK _ _ (h a' c' w' h2 h3 h4)
theorem step_app (w : World) {ops : Array Oper} {o : Oper} {a : Act} {K : Act → World → Prop} {Q : Exit → Act → World → Prop} {E : Prop} (hgd : o.guard = none) (s x : Operand) (ho : o.op = .call { callee := .builtin .append, args := #[s, x], argTypes := #[23, 23] })
    (B : Nat) (v : Value) (n : Nat) (xs : List Int) (hs : a.eval s = v) (hown : w.ownsRow B 3 1 v n (i64s xs)) (am : Option Addr) (m c : Nat) (ys : List Int) (hx : a.eval x = .slice am m c) (hr : Rd w am m (i64s ys)) (hnm : n + m ≤ 1000000) (hB : B ≤ w.heap.size)
    (h : ∀ a' c' w', w'.ownsRow B 3 1 (.slice a' (n + m) c') (n + m) (i64s (xs ++ ys)) → w.grownBy w' v.ownBlock → ((Value.slice a' (n + m) c').ownBlock = v.ownBlock ∨ (Value.slice a' (n + m) c').ownBlock = some w.heap.size) → K (a.put o.dst (.slice a' (n + m) c')) w') :
    if Region.wanted o (yielded ops a.tmps) = true then Oper.wp Try.prog o a w K Q else E := by
  have hw : Region.wanted o (yielded ops a.tmps) = true := by simp [Region.wanted, hgd]
  rw [if_pos hw]
  exact wp_app w s x ho B v n xs hs hown am m c ys hx hr hnm hB h
theorem own_empty (w : World) (t : TypeId) : (w.alloc (.cells #[] 3)).ownsRow w.heap.size 3 1 (.slice (some ⟨w.heap.size, 0, none⟩) 0 0) 0 (i64s []) := World.ownsRow_lit (base := w.heap.size) (e := 3) (size := 1) w #[] 0 (Nat.le_refl _) (by decide) rfl
theorem run_app0 (w : World) (ty : TypeId) (B g : Nat) (hown : w.ownsRow B 3 1 (.slice (some ⟨g, 0, none⟩) 0 0) 0 (i64s [])) (am : Option Addr) (m c : Nat) (ys : List Int) (hr : Rd w am m (i64s ys)) (hm : m ≤ 100000) (hB : B ≤ w.heap.size) :
    ∃ a' c' w', (Builtin.append_ #[23, 23] ty #[.slice (some ⟨g, 0, none⟩) 0 0, .slice am m c]).run Try.prog w = .ok (.slice a' m c') w' ∧ w'.ownsRow B 3 1 (.slice a' m c') m (i64s ys) ∧ Below w.heap.size w w' ∧ ((Value.slice a' m c').ownBlock = some g ∨ (Value.slice a' m c').ownBlock = some w.heap.size) := by
  obtain ⟨i0, hi, hz0, hz1, hz2⟩ := info_parts infoInt
  have hlen : (i64s ys).length = m := hr.1
  rcases Nat.eq_zero_or_pos m with h0 | hpos
  · subst h0
    have hy : ys = [] := List.eq_nil_of_length_eq_zero (by have := hr.1; simpa [i64s] using this)
    subst hy
    have hs : Src Try.prog i0.size 23 (.slice am 0 c) 0 [] w := by
      cases am with
      | none => exact Src.ofNil w Try.underlying23 c
      | some ad => exact Src.ofSlice w Try.underlying23 ad 0 c [] (by simp) (by simp) (by simp)
    have h := run_append_room_src w 23 23 ty 3 i0 Try.underlying23 hi g 0 0 0 (.slice am 0 c) 0 [] hs (by omega) (by simp) (by simp)
    exact ⟨some ⟨g, 0, none⟩, 0, w, h, hown, Below.refl _ _, Or.inl rfl⟩
  · obtain ⟨b, off, rfl, hlt, hc⟩ := hr.2 hpos
    have hs : Src Try.prog i0.size 23 (.slice (some ⟨b, off, none⟩) m c) m (i64s ys) w := by
      refine Src.ofSlice w Try.underlying23 ⟨b, off, none⟩ m c (i64s ys) (by rw [hz1, hlen, Nat.mul_one]) (fun j u hj => ?_) (fun u hu => ?_)
      · have hjm : j < m := by rw [← hlen]; exact (List.getElem?_eq_some_iff.1 hj).1
        have := hc j hjm
        rw [hj] at this
        rw [← this, Addr.add_lit]
      · simp only [i64s, List.mem_map] at hu
        obtain ⟨x, -, rfl⟩ := hu
        rfl
    have hold : (Builtin.firstCells i0.size 0 (.slice (some ⟨g, 0, none⟩) 0 0)).run Try.prog w.drew = .ok ([] : List Value).toArray w.drew :=
      run_firstCells_some w.drew i0.size 0 ⟨g, 0, none⟩ 0 0 [] (by simp) (by simp)
    have h := run_append_grow_src w 23 23 ty 3 i0 (.int .i64 0) Try.underlying23 hi hz0 (some ⟨g, 0, none⟩) 0 0 [] hold (.slice (some ⟨b, off, none⟩) m c) m (i64s ys) hs (by omega) (by omega)
      (growslice_fits_wide (by omega) (by rw [hz2]; omega))
    rw [Nat.zero_add, List.nil_append] at h
    have hge := grownCap_ge w m 0 3
    refine ⟨_, _, _, h, ⟨by rw [hlen, Nat.mul_one], .inr ⟨w.heap.size, _, _, rfl, hB, heap_alloc_new w.drew _, hge, grownCap_le_maxLen w m 0 3 (by unfold maxLen; omega), ?_, ?_⟩⟩, (Below.drew (Below.refl _ _)).alloc (Nat.le_refl _) _, Or.inr rfl⟩
    · rw [Array.size_append, size_zeroCells, List.size_toArray, hlen]
      simp [Value.cells]
      omega
    · rw [Array.toList_append, Nat.mul_one, List.take_append_of_le_length (by simp [hlen]), List.take_of_length_le (by simp [hlen])]
theorem wp_app0 (w : World) {o : Oper} {a : Act} {K : Act → World → Prop} {Q : Exit → Act → World → Prop} (s x : Operand) (ho : o.op = .call { callee := .builtin .append, args := #[s, x], argTypes := #[23, 23] })
    (B g : Nat) (hs : a.eval s = .slice (some ⟨g, 0, none⟩) 0 0) (hown : w.ownsRow B 3 1 (.slice (some ⟨g, 0, none⟩) 0 0) 0 (i64s [])) (am : Option Addr) (m c : Nat) (ys : List Int) (hx : a.eval x = .slice am m c) (hr : Rd w am m (i64s ys)) (hm : m ≤ 100000) (hB : B ≤ w.heap.size)
    (h : ∀ a' c' w', w'.ownsRow B 3 1 (.slice a' m c') m (i64s ys) → Below w.heap.size w w' → ((Value.slice a' m c').ownBlock = some g ∨ (Value.slice a' m c').ownBlock = some w.heap.size) → K (a.put o.dst (.slice a' m c')) w') : o.wp Try.prog a w K Q := by
  obtain ⟨a', c', w', hr, h2, h3, h4⟩ := run_app0 w o.type B g hown am m c ys hr hm hB
  unfold Oper.wp execOp
  simp only [ho, resolve, invoke, builtin, Sem.run_bind, Sem.run_pure, Result.andThen_ok, List.map_toArray, List.map_cons, List.map_nil, hs, hx, hr]
  exact h a' c' w' h2 h3 h4
theorem wpList_app0 (w : World) {ops : Array Oper} {rest : List Oper} {o : Oper} {a : Act} {Q : Exit → Act → World → Prop} (hgd : o.guard = none) (s x : Operand) (ho : o.op = .call { callee := .builtin .append, args := #[s, x], argTypes := #[23, 23] })
    (B g : Nat) (hs : a.eval s = .slice (some ⟨g, 0, none⟩) 0 0) (hown : w.ownsRow B 3 1 (.slice (some ⟨g, 0, none⟩) 0 0) 0 (i64s [])) (am : Option Addr) (m c : Nat) (ys : List Int) (hx : a.eval x = .slice am m c) (hr : Rd w am m (i64s ys)) (hm : m ≤ 100000) (hB : B ≤ w.heap.size)
    (h : ∀ a' c' w', w'.ownsRow B 3 1 (.slice a' m c') m (i64s ys) → Below w.heap.size w w' → ((Value.slice a' m c').ownBlock = some g ∨ (Value.slice a' m c').ownBlock = some w.heap.size) → wpList Try.prog ops Q rest (a.put o.dst (.slice a' m c')) w') : wpList Try.prog ops Q (o :: rest) a w :=
  wpList_plain hgd fun _ hK => wp_app0 w s x ho B g hs hown am m c ys hx hr hm hB fun a' c' w' h2 h3 h4 => hK _ _ (h a' c' w' h2 h3 h4)
theorem step_app0 (w : World) {ops : Array Oper} {o : Oper} {a : Act} {K : Act → World → Prop} {Q : Exit → Act → World → Prop} {E : Prop} (hgd : o.guard = none) (s x : Operand) (ho : o.op = .call { callee := .builtin .append, args := #[s, x], argTypes := #[23, 23] })
    (B g : Nat) (hs : a.eval s = .slice (some ⟨g, 0, none⟩) 0 0) (hown : w.ownsRow B 3 1 (.slice (some ⟨g, 0, none⟩) 0 0) 0 (i64s [])) (am : Option Addr) (m c : Nat) (ys : List Int) (hx : a.eval x = .slice am m c) (hr : Rd w am m (i64s ys)) (hm : m ≤ 100000) (hB : B ≤ w.heap.size)
    (h : ∀ a' c' w', w'.ownsRow B 3 1 (.slice a' m c') m (i64s ys) → Below w.heap.size w w' → ((Value.slice a' m c').ownBlock = some g ∨ (Value.slice a' m c').ownBlock = some w.heap.size) → K (a.put o.dst (.slice a' m c')) w') :
    if Region.wanted o (yielded ops a.tmps) = true then Oper.wp Try.prog o a w K Q else E := by
  have hw : Region.wanted o (yielded ops a.tmps) = true := by simp [Region.wanted, hgd]
  rw [if_pos hw]
  exact wp_app0 w s x ho B g hs hown am m c ys hx hr hm hB h
theorem grownB {w w1 w2 : World} {row : Option Nat} (h : Below w.heap.size w w1) (hg : w1.grownBy w2 row) (hr : ∀ q, row = some q → w.heap.size ≤ q) : Below w.heap.size w w2 :=
  h.trans ⟨hg.os, hg.tape, hg.output, hg.size, fun k hk => hg.block k (Nat.lt_of_lt_of_le hk h.size) (fun e => by have := hr k e.symm; omega)⟩
end Go.Proofs.Ythammjpadbbflaa
