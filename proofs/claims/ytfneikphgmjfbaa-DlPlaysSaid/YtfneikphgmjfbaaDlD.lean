/- append of numbers, whatever is appended; each once; all that is needed: contracts. -/
import Derived.Test.YtfneikphgmjfbaaDlC
namespace Go.Proofs.Ytfneikphgmjfbaa
set_option linter.unusedVariables false
set_option linter.unusedSimpArgs false
open Go.Joins Go.ChangeShapes Go.WideShapes Go.ChangeAt Go.RowKit Go.Deep

theorem rd_one (w : World) (y : Int) (t : TypeId) : Rd (w.alloc (.cells #[.int .i64 y] t)) (some ⟨w.heap.size, 0, none⟩) 1 (i64s [y]) := Rd.lit w #[.int .i64 y] t (by show 1 ≤ maxLen; decide)
theorem run_app (w : World) (ty : TypeId) (B : Nat) (v : Value) (n : Nat) (xs : List Int) (hown : w.ownsRow B 3 1 v n (i64s xs)) (am : Option Addr) (m c : Nat) (ys : List Int) (hr : Rd w am m (i64s ys)) (hnm : n + m ≤ 1000000) (hB : B ≤ w.heap.size) :
    ∃ a' c' w', (Builtin.append_ #[26, 26] ty #[v, .slice am m c]).run Try.prog w = .ok (.slice a' (n + m) c') w' ∧ w'.ownsRow B 3 1 (.slice a' (n + m) c') (n + m) (i64s (xs ++ ys)) ∧ w.grownBy w' v.ownBlock ∧ ((Value.slice a' (n + m) c').ownBlock = v.ownBlock ∨ (Value.slice a' (n + m) c').ownBlock = some w.heap.size) := by
  obtain ⟨i0, hi, hz0, hz1, hz2⟩ := info_parts infoInt
  cases am with
  | none =>
    have h0 : m = 0 := by
      rcases Nat.eq_zero_or_pos m with h | h
      · exact h
      · obtain ⟨b, off, e, -⟩ := hr.2 h; cases e
    subst h0
    have hy : ys = [] := List.eq_nil_of_length_eq_zero (by rw [← i64s_length]; exact hr.1)
    subst hy
    obtain ⟨a', c', rfl, -⟩ := own_slice hown
    refine ⟨a', c', w, ?_, by simpa using hown, ⟨rfl, rfl, rfl, Nat.le_refl _, fun _ _ _ => rfl⟩, Or.inl rfl⟩
    rcases hown.2 with ⟨h1, rfl⟩ | ⟨g, cap, cur, h1, _, _, hnc, _⟩
    · cases h1
      simp [Builtin.append_, run_underlying Try.underlying26, sizeOf, typeInfo, hi, Builtin.lenOf, Builtin.firstCells]
    · cases h1
      simp [Builtin.append_, run_underlying Try.underlying26, sizeOf, typeInfo, hi, Builtin.lenOf, Builtin.firstCells, hnc, storeCells]
  | some ad =>
    have hl : (i64s ys).length = m * 1 := by rw [Nat.mul_one]; exact hr.1
    have hnews : ∀ j u, (i64s ys)[j]? = some u → w.cell? (ad.add j) = some u := by
      intro j u hj
      have hjm : j < m := by
        have := (List.getElem?_eq_some_iff.1 hj).1
        rw [hr.1] at this; exact this
      obtain ⟨b, off, e, -, hc⟩ := hr.at_ hjm
      cases e
      rw [hj] at hc
      rw [add_plain]
      exact hc
    have h1 : ∀ u ∈ i64s ys, u.oneCell' = true := by
      intro u hu
      simp only [i64s, List.mem_map] at hu
      obtain ⟨x, -, rfl⟩ := hu
      rfl
    obtain ⟨v', w', h2, h3, h4, -, h5⟩ := run_append_own_at (P := Try.prog) w B 26 ty 3 i0 (.int .i64 0) 1 8 Try.underlying26 hi hz0 hz1 hz2 rfl (by decide) v n (i64s xs) hown ad m c (i64s ys) hl hnews h1 (by unfold maxLen; omega) (by omega) hB
    obtain ⟨a', c', rfl, -⟩ := own_slice h3
    exact ⟨a', c', w', h2, by simpa [i64s] using h3, h4, h5⟩
theorem wp_app (w : World) {o : Oper} {a : Act} {K : Act → World → Prop} {Q : Exit → Act → World → Prop} (s x : Operand) (ho : o.op = .call { callee := .builtin .append, args := #[s, x], argTypes := #[26, 26] })
    (B : Nat) (v : Value) (n : Nat) (xs : List Int) (hs : a.eval s = v) (hown : w.ownsRow B 3 1 v n (i64s xs)) (am : Option Addr) (m c : Nat) (ys : List Int) (hx : a.eval x = .slice am m c) (hr : Rd w am m (i64s ys)) (hnm : n + m ≤ 1000000) (hB : B ≤ w.heap.size)
    (h : ∀ a' c' w', w'.ownsRow B 3 1 (.slice a' (n + m) c') (n + m) (i64s (xs ++ ys)) → w.grownBy w' v.ownBlock → ((Value.slice a' (n + m) c').ownBlock = v.ownBlock ∨ (Value.slice a' (n + m) c').ownBlock = some w.heap.size) → K (a.put o.dst (.slice a' (n + m) c')) w') : o.wp Try.prog a w K Q := by
  obtain ⟨a', c', w', hr, h2, h3, h4⟩ := run_app w o.type B v n xs hown am m c ys hr hnm hB
  unfold Oper.wp execOp
  simp only [ho, resolve, invoke, builtin, Sem.run_bind, Sem.run_pure, Result.andThen_ok, List.map_toArray, List.map_cons, List.map_nil, hs, hx, hr]
  exact h a' c' w' h2 h3 h4
theorem wpList_app (w : World) {ops : Array Oper} {rest : List Oper} {o : Oper} {a : Act} {Q : Exit → Act → World → Prop} (hgd : o.guard = none) (s x : Operand) (ho : o.op = .call { callee := .builtin .append, args := #[s, x], argTypes := #[26, 26] })
    (B : Nat) (v : Value) (n : Nat) (xs : List Int) (hs : a.eval s = v) (hown : w.ownsRow B 3 1 v n (i64s xs)) (am : Option Addr) (m c : Nat) (ys : List Int) (hx : a.eval x = .slice am m c) (hr : Rd w am m (i64s ys)) (hnm : n + m ≤ 1000000) (hB : B ≤ w.heap.size)
    (h : ∀ a' c' w', w'.ownsRow B 3 1 (.slice a' (n + m) c') (n + m) (i64s (xs ++ ys)) → w.grownBy w' v.ownBlock → ((Value.slice a' (n + m) c').ownBlock = v.ownBlock ∨ (Value.slice a' (n + m) c').ownBlock = some w.heap.size) → wpList Try.prog ops Q rest (a.put o.dst (.slice a' (n + m) c')) w') : wpList Try.prog ops Q (o :: rest) a w :=
  wpList_plain hgd fun _ hK => wp_app w s x ho B v n xs hs hown am m c ys hx hr hnm hB fun a' c' w' h2 h3 h4 => hK _ _ (h a' c' w' h2 h3 h4)
theorem step_app (w : World) {ops : Array Oper} {o : Oper} {a : Act} {K : Act → World → Prop} {Q : Exit → Act → World → Prop} {E : Prop} (hgd : o.guard = none) (s x : Operand) (ho : o.op = .call { callee := .builtin .append, args := #[s, x], argTypes := #[26, 26] })
    (B : Nat) (v : Value) (n : Nat) (xs : List Int) (hs : a.eval s = v) (hown : w.ownsRow B 3 1 v n (i64s xs)) (am : Option Addr) (m c : Nat) (ys : List Int) (hx : a.eval x = .slice am m c) (hr : Rd w am m (i64s ys)) (hnm : n + m ≤ 1000000) (hB : B ≤ w.heap.size)
    (h : ∀ a' c' w', w'.ownsRow B 3 1 (.slice a' (n + m) c') (n + m) (i64s (xs ++ ys)) → w.grownBy w' v.ownBlock → ((Value.slice a' (n + m) c').ownBlock = v.ownBlock ∨ (Value.slice a' (n + m) c').ownBlock = some w.heap.size) → K (a.put o.dst (.slice a' (n + m) c')) w') :
    if Region.wanted o (yielded ops a.tmps) = true then Oper.wp Try.prog o a w K Q else E := by
  have hw : Region.wanted o (yielded ops a.tmps) = true := by simp [Region.wanted, hgd]
  rw [if_pos hw]
  exact wp_app w s x ho B v n xs hs hown am m c ys hx hr hnm hB h
/-! A set of numbers, and what was met. -/
def Sd (o : List Nat) : DataW Unit := Maps.setOf (.agg []) ((ordZ o).map (Lit.int .i64))
theorem any_int (x : Int) : ∀ l : List Int, l.any ((fun y : Lit => y.sameKey (.int .i64 x)) ∘ Lit.int .i64) = l.contains x
  | [] => rfl
  | a :: r => by
    rw [List.any_cons, List.contains_cons, any_int x r]
    congr 1
    show decide (IntKind.i64 = IntKind.i64 ∧ a = x) = (x == a)
    by_cases e : a = x
    · subst e
      simp
    · have e' : ¬ x = a := fun h => e h.symm
      simp [e, e']
theorem has_Sd (o : List Nat) (k : Nat) : Maps.has (Sd o) (.int .i64 (k : Int)) = o.contains k := by
  unfold Sd
  rw [Maps.has_setOf _ _ _ (fun y hy => by obtain ⟨_, _, rfl⟩ := List.mem_map.1 hy; trivial), List.any_map, any_int, ordZ_contains]
theorem Sd_snoc (o : List Nat) (k : Nat) : Sd (o ++ [k]) = (Sd o).put (.int .i64 (k : Int)) (.agg []) := by
  unfold Sd ordZ
  rw [List.map_append, List.map_append, List.map_singleton, List.map_singleton, Maps.setOf_snoc]
theorem keyedInt : Maps.Keyed Try.prog 3 := Maps.int_keyed Try.underlying3
theorem zeroUnit (w : World) : (zeroValue 88).run Try.prog w = .ok (.agg #[]) w := by kernel_rfl
theorem row_ne {w : World} {base : Nat} {e : TypeId} {size : Nat} {v : Value} {n : Nat} {xs : List Value} (h : w.ownsRow base e size v n xs) {b : Nat} (hb : b < base) : some b ≠ v.ownBlock := fun e1 => by
  have := (h.lt b e1.symm).1
  omega
theorem onceL_le (o : List Nat) : (onceL o).length ≤ o.length := by
  have : ∀ (o acc : List Nat), (o.foldl add1 acc).length ≤ acc.length + o.length := by
    intro o
    induction o with
    | nil => intro acc; simp
    | cons x o ih =>
      intro acc
      have h1 := ih (add1 acc x)
      have h2 : (add1 acc x).length ≤ acc.length + 1 := by unfold add1; split <;> simp
      rw [List.foldl_cons, List.length_cons]
      omega
  have := this o []
  simpa [onceL] using this
theorem grownB {w w1 w2 : World} {row : Option Nat} (h : Below w.heap.size w w1) (hg : w1.grownBy w2 row) (hr : ∀ q, row = some q → w.heap.size ≤ q) : Below w.heap.size w w2 :=
  h.trans ⟨hg.os, hg.tape, hg.output, hg.size, fun k hk => hg.block k (Nat.lt_of_lt_of_le hk h.size) (fun e => by have := hr k e.symm; omega)⟩
set_option maxHeartbeats 1000000 in
set_option maxRecDepth 100000 in
theorem once_any (a : Option Addr) (c : Nat) (o : List Nat) (w : World) (h : Rd w a o.length (i64s (ordZ o))) (hn : o.length ≤ 100000) (hmx : ∀ k ∈ o, k < 1000000) :
    Calls Try.prog 43 #[.slice a o.length c] w fun e w' => ∃ a' c', e = .returned (.slice a' (onceL o).length c') ∧ w'.ownsRow w.heap.size 3 1 (.slice a' (onceL o).length c') (onceL o).length (i64s (ordZ (onceL o))) ∧ Below w.heap.size w w' := by
  have HL := Lib.hid h
  have HMX := Lib.hid hmx
  have hmm := @run_makeMap Try.prog
  obtain ⟨n, hlen⟩ : ∃ n, o.length = n := ⟨_, rfl⟩
  rw [hlen] at hn HL ⊢
  have HN := Lib.hid hlen
  clear h hmx hlen
  go_enter Try.func43, Try.ntmps43
  go_wp2_with fail
  clear hmm
  go_loopw [4, 12] (fun v i wr => ∃ (k m : Nat) (a1 : Option Addr) (c1 : Nat), v = .slice a1 m c1 ∧ k ≤ n ∧ i = .int .i64 k ∧ Hid (m = (onceL (o.take k)).length) ∧ m ≤ k ∧ Hid (wr.ownsMap Try.prog 3 unitElem w.heap.size k (Sd (onceL (o.take k)))) ∧ Hid (wr.ownsRow (w.heap.size + 1) 3 1 (.slice a1 m c1) m (i64s (ordZ (onceL (o.take k))))) ∧ Hid (Below w.heap.size w wr ∧ w.heap.size + 1 ≤ wr.heap.size)) (fun _ i _ => n - (intOf i).toNat)
  case atStart => exact ⟨0, 0, none, 0, rfl, by omega, rfl, Lib.hid rfl, by omega, Lib.hid (World.ownsMap_made _ _ _ _), Lib.hid (World.ownsRow_nil _ _ _ _), Lib.hid ⟨bAlloc (Below.refl _ _) _, by simp⟩⟩
  case round =>
    obtain ⟨k, m, a1, c1, rfl, hk, rfl, HM, hmk, HS, HR, HB⟩ := hrel
    by_cases hlt : k < n
    · have hkl : k < o.length := by rw [HN.out]; exact hlt
      obtain ⟨b, off, rfl, -, hc⟩ := (HL.out.below HB.out.1).at_ hlt
      rw [ordZ_get o k hkl] at hc
      have hon : onceL (o.take (k + 1)) = add1 (onceL (o.take k)) o[k] := by rw [List.take_succ_eq_append_getElem hkl, onceL_snoc]
      obtain ⟨y, hy⟩ : ∃ y, o[k] = y := ⟨_, rfl⟩
      have hyx : y < 1000000 := hy ▸ HMX.out _ (List.getElem_mem hkl)
      rw [hy] at hc hon
      have HON := Lib.hid hon
      have hkey : keyOf Try.prog 3 (.int .i64 (y : Int)) = some (.int .i64 (y : Int)) := Maps.keyOf_int_mk Try.underlying3 (WalkArith.wf_i64 (by omega))
      have HKEY := Lib.hid hkey
      have HIN := Lib.hid (has_Sd (onceL (o.take k)) y)
      obtain ⟨s, hs⟩ : ∃ s, (onceL (o.take k)).contains y = s := ⟨_, rfl⟩
      rw [hs] at HIN
      have HSS := Lib.hid hs
      have hbs := HB.out.2
      clear hon hy hkey hs
      cases s with
      | true =>
        have HAD := Lib.hid (show onceL (o.take (k + 1)) = onceL (o.take k) by rw [HON.out]; unfold add1; rw [if_pos HSS.out])
        go_wp2_with (at_lookup; refine wpList_lookup_own_unit _ rfl _ _ 87 rfl 3 88 keyedInt Try.underlying87 (zeroUnit _) w.heap.size k _ rfl HS.out _ _ rfl HKEY.out ?_; rw [HIN.out])
        go_roundw
        case rel => exact ⟨k + 1, m, a1, c1, rfl, by omega, by go_num, Lib.hid (by rw [HAD.out]; exact HM.out), by omega, Lib.hid (by rw [HAD.out]; exact (HS.out.alloc _).mono (Nat.le_succ _)), Lib.hid (by rw [HAD.out]; exact HR.out.alloc _), Lib.hid ⟨bAlloc HB.out.1 _, by simp; omega⟩⟩
        case measure => simp [intOf]; omega
      | false =>
        have HAD := Lib.hid (show onceL (o.take (k + 1)) = onceL (o.take k) ++ [y] by rw [HON.out]; unfold add1; rw [if_neg (by rw [HSS.out]; exact Bool.false_ne_true)])
        go_wp2_with (first
          | (at_lookup; refine wpList_lookup_own_unit _ rfl _ _ 87 rfl 3 88 keyedInt Try.underlying87 (zeroUnit _) w.heap.size k _ rfl HS.out _ _ rfl HKEY.out ?_; rw [HIN.out])
          | (at_mapUpdate; refine wpList_mapUpdate_own _ rfl _ _ _ 87 rfl 3 88 keyedInt Try.underlying87 (unitElem (H := Unit)) w.heap.size k _ rfl (HS.out.alloc _) (by unfold maxLen; omega) _ _ _ rfl rfl HKEY.out _ [] unitElem_mk ?_; intro w1 hown1 hgrow1; have hz1 := hgrow1.size; have HG1 := Lib.hid hgrow1; have HO1 := Lib.hid hown1; have HR1 := Lib.hid ((HR.out.alloc (.cells #[] 88)).kept hgrow1 (Or.inr (row_ne HR.out (Nat.lt_succ_self _)).symm)); clear hgrow1 hown1)
          | (at_builtin; refine wpList_app _ rfl _ _ rfl (w.heap.size + 1) (.slice a1 m c1) m (ordZ (onceL (o.take k))) rfl (HR1.out.alloc _) (some ⟨w1.heap.size, 0, none⟩) 1 1 [(y : Int)] rfl (rd_one w1 y 3) (by omega) (by simp at hz1 ⊢; omega) ?_; intro a' c' w2 hown' hgrow2 hat2; have HO2 := Lib.hid hown'; have HG2 := Lib.hid hgrow2; clear hown' hgrow2 hat2))
        go_roundw
        case rel =>
          have s1 := HG1.out.size
          have s2 := HG2.out.size
          simp at s1 s2
          refine ⟨k + 1, m + 1, a', c', rfl, by omega, by go_num, Lib.hid (by rw [HAD.out, List.length_append, ← HM.out]; rfl), by omega, Lib.hid ?_, Lib.hid ?_, Lib.hid ⟨?_, by omega⟩⟩
          · rw [HAD.out, Sd_snoc]
            exact (HO1.out.alloc _).kept HG2.out (row_ne HR1.out (Nat.lt_succ_self _))
          · rw [HAD.out]
            have := HO2.out
            simpa [ordZ] using this
          · exact grownB (bAlloc (grownB (bAlloc HB.out.1 _) HG1.out (fun q hq => by cases hq; exact Nat.le_refl _)) _) HG2.out (fun q hq => Nat.le_trans (Nat.le_succ _) (HR1.out.lt q hq).1)
        case measure => simp [intOf]; omega
    · have hall : o.take k = o := List.take_of_length_le (by rw [HN.out]; omega)
      have hm := HM.out
      have hr := HR.out
      rw [hall] at hm hr
      subst hm
      have HRR := Lib.hid hr
      clear hr hall
      go_wp2_with fail
      go_ret
      exact ⟨_, _, rfl, HRR.out.mono (base' := w.heap.size) (Nat.le_succ _), HB.out.1⟩
end Go.Proofs.Ytfneikphgmjfbaa
