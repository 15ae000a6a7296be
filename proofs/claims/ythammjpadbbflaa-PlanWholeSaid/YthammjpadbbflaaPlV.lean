/- PlanWhole: small lemmas. -/
import Derived.Test.YthammjpadbbflaaPlK
import Derived.Test.YthammjpadbbflaaLkT
namespace Go.Proofs.Ythammjpadbbflaa
set_option linter.unusedVariables false
set_option linter.unusedSimpArgs false
open Go.Joins Go.ChangeShapes Go.WideShapes Go.ChangeAt Go.RowKit Go.Deep

theorem contF_pre (l : List Ob) (sc t : List Nat) (p : Res) (acc xs : List Lnk) (h : contF l sc t (shiftR p acc) = (xs, none)) : ∃ ys, xs = acc ++ ys := by
  obtain ⟨ys, e⟩ := p
  cases e with
  | some e => cases h
  | none =>
    have h : linkF l sc t (acc ++ ys) = (xs, none) := h
    rw [linkF_shift] at h
    obtain ⟨q, hq⟩ : ∃ q, linkF l sc t [] = q := ⟨_, rfl⟩
    rw [hq] at h
    obtain ⟨zs, e⟩ := q
    cases e with
    | some e => cases h
    | none =>
      cases h
      exact ⟨ys ++ zs, by simp⟩
theorem whole_step (l : List Ob) (sc t : List Nat) (o k : Nat) (rs : List (Int × Int)) (pre xs : List Lnk) (h : contF l sc t (relF l sc o k (rs.drop k) pre) = (xs, none)) (hk : k < rs.length) :
    ∃ tt s, bnd l sc o rs[k].2 = (tt, s, 0) ∧ contF l sc t (relF l sc o (k + 1) (rs.drop (k + 1)) (pre ++ [⟨o, k, tt, s⟩])) = (xs, none) ∧ ∃ hl : pre.length < xs.length, xs[pre.length] = ⟨o, k, tt, s⟩ := by
  obtain ⟨tt, s, e, hb⟩ : ∃ tt s e, bnd l sc o rs[k].2 = (tt, s, e) := ⟨_, _, _, rfl⟩
  by_cases he : e = 0
  · subst he
    have h2 := h
    rw [relF_ok l sc o k rs pre hk tt s hb] at h2
    refine ⟨tt, s, hb, h2, ?_⟩
    rw [relF_shift] at h2
    obtain ⟨ys, hy⟩ := contF_pre l sc t _ _ xs h2
    subst hy
    exact ⟨by simp, by simp⟩
  · rw [relF_bad l sc o k rs pre hk tt s e hb he] at h
    cases h
theorem relF_where (l : List Ob) (sc : List Nat) (o : Nat) (r : List (Int × Int)) : ∀ (k : Nat) (acc : List Lnk) (x : Lnk × Int), (relF l sc o k r acc).2 = some x → x.1.o = (o : Int) ∧ (k : Int) ≤ x.1.r ∧ x.1.r < (k : Int) + (r.length : Int) := by
  induction r with
  | nil => intro k acc x h; cases h
  | cons y t ih =>
    intro k acc x
    unfold relF
    split
    · intro h
      have := ih _ _ _ h
      simp only [List.length_cons]
      omega
    · intro h
      cases h
      refine ⟨rfl, Int.le_refl _, ?_⟩
      simp only [List.length_cons]
      omega
theorem linkF_where (l : List Ob) (sc os : List Nat) : ∀ (acc : List Lnk) (x : Lnk × Int), (linkF l sc os acc).2 = some x → ∃ o ∈ os, x.1.o = (o : Int) ∧ 0 ≤ x.1.r ∧ x.1.r < ((relsAt l o).length : Int) := by
  induction os with
  | nil => intro acc x h; cases h
  | cons o t ih =>
    intro acc x h
    have hu : linkF l sc (o :: t) acc = contF l sc t (relF l sc o 0 (relsAt l o) acc) := rfl
    rw [hu] at h
    have h1 := relF_where l sc o (relsAt l o) 0 acc
    obtain ⟨p, hp⟩ : ∃ p, relF l sc o 0 (relsAt l o) acc = p := ⟨_, rfl⟩
    rw [hp] at h1 h
    obtain ⟨ys, e⟩ := p
    cases e with
    | none =>
      obtain ⟨o', ho', h2⟩ := ih ys x h
      exact ⟨o', List.mem_cons_of_mem _ ho', h2⟩
    | some e =>
      have h2 := h1 x h
      exact ⟨o, List.mem_cons_self .., h2.1, by omega, by omega⟩
/-- what a relocation that is bound is bound to -/
theorem bnd_cases (l : List Ob) (sc : List Nat) (o y : Nat) (tt s : Int) (ho : o < l.length) (hy : y < (symsAt l o).length) (hsc : ∀ k ∈ sc, k < l.length) (hb : bnd l sc o (y : Int) = (tt, s, 0)) :
    (tt = -1 ∧ (symsAt l o)[y].defd = false ∧ ((symsAt l o)[y].bind == 3) = true) ∨
    ∃ (o' y' : Nat), tt = (o' : Int) ∧ s = (y' : Int) ∧ o' < l.length ∧ ∃ hy' : y' < (symsAt l o').length, (symsAt l o')[y'].defd = true ∧ (symsAt l o')[y'].name = (symsAt l o)[y].name := by
  have hsy := symsAt_eq ho
  have hy2 : y < l[o].syms.length := by rw [← hsy]; exact hy
  have hg : (symsAt l o)[y] = l[o].syms[y] := by
    have h1 : (symsAt l o)[y]? = l[o].syms[y]? := by rw [hsy]
    rw [List.getElem?_eq_getElem hy, List.getElem?_eq_getElem hy2] at h1
    exact Option.some.inj h1
  rw [bnd_eq l sc o y ho hy2] at hb
  have h := bindS_cases l sc o y ho hy2 hsc
  rw [hb] at h
  rw [hg]
  rcases h with ⟨h, -⟩ | ⟨h1, -, -, h4, h5⟩ | ⟨o', y', d, h1, h2, -, h4, h5, h6, -, h8, h9, -⟩
  · exact absurd rfl h
  · exact .inl ⟨h1, h4, h5⟩
  · have hd : (symsAt l o')[y'] = d := by
      rw [List.getElem?_eq_getElem h5] at h6
      exact Option.some.inj h6
    exact .inr ⟨o', y', h1, h2, h4, h5, by rw [hd]; exact h8, by rw [hd]; exact h9⟩
end Go.Proofs.Ythammjpadbbflaa
