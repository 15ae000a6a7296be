/- What one object needs, through all that it needs: plain mathematics. -/
import Derived.Test.YtfneikphgmjfbaaGrQ
namespace Go.Proofs.Ytfneikphgmjfbaa
set_option linter.unusedVariables false
set_option linter.unusedSimpArgs false
open Go.Joins Go.ChangeShapes Go.WideShapes Go.ChangeAt Go.RowKit

inductive RE (l : List Obj) (s : Nat) : Nat → Prop
  | refl : RE l s s
  | step {k j : Nat} : RE l s k → some j ∈ needsI l k → RE l s j
/-- what was reached while i of them were looked through -/
def RS (l : List Obj) (s : Nat) (o : List Nat) (i : Nat) : Prop :=
  Ord l o ∧ s ∈ o ∧ (∀ k ∈ o, RE l s k) ∧ ∀ p (h : p < o.length), p < i → ∀ j, some j ∈ needsI l o[p] → j ∈ o
def RT (l : List Obj) (s : Nat) (o : List Nat) (i kk q : Nat) : Prop :=
  RS l s o i ∧ (∃ h : i < o.length, o[i] = kk) ∧ ∀ j, some j ∈ (needsI l kk).take q → j ∈ o
theorem RS.start {l : List Obj} {s : Nat} (hs : s < l.length) : RS l s [s] 0 := ⟨Ord.one hs, by simp, fun k hk => by simp at hk; subst hk; exact .refl, fun p h hp => by omega⟩
theorem RT.start {l : List Obj} {s : Nat} {o : List Nat} {i : Nat} (h : RS l s o i) (hi : i < o.length) : RT l s o i o[i] 0 := ⟨h, ⟨hi, rfl⟩, by simp⟩
theorem RT.keep {l : List Obj} {s : Nat} {o : List Nat} {i kk q : Nat} {x : Option Nat} (h : RT l s o i kk q) (ht : (needsI l kk).take (q + 1) = (needsI l kk).take q ++ [x]) (hx : ∀ j, x = some j → j ∈ o) : RT l s o i kk (q + 1) :=
  ⟨h.1, h.2.1, fun j hj => by
    rw [ht, List.mem_append] at hj
    rcases hj with hj | hj
    · exact h.2.2 j hj
    · simp at hj; exact hx j hj.symm⟩
theorem RT.add {l : List Obj} {s : Nat} {o : List Nat} {i kk q k : Nat} (h : RT l s o i kk q) (ht : (needsI l kk).take (q + 1) = (needsI l kk).take q ++ [some k]) (hk : k < l.length) (hn : o.contains k = false) : RT l s (o ++ [k]) i kk (q + 1) := by
  obtain ⟨⟨h1, h2, h3, h4⟩, ⟨hi, he⟩, h6⟩ := h
  have hO := h1.add hk
  simp only [addO, hn, Bool.false_eq_true, if_false] at hO
  refine ⟨⟨hO, List.mem_append_left _ h2, fun j hj => ?_, fun p hp hpi j hj => ?_⟩, ⟨by simp; omega, by rw [List.getElem_append_left hi]; exact he⟩, fun j hj => ?_⟩
  · rcases List.mem_append.1 hj with hj | hj
    · exact h3 j hj
    · simp at hj
      subst hj
      refine .step (h3 kk (he ▸ List.getElem_mem hi)) (List.mem_of_mem_take (i := q + 1) ?_)
      rw [ht]; simp
  · rw [List.getElem_append_left (by omega)] at hj
    exact List.mem_append_left _ (h4 p (by omega) hpi j hj)
  · rw [ht, List.mem_append] at hj
    rcases hj with hj | hj
    · exact List.mem_append_left _ (h6 j hj)
    · simp at hj; subst hj; simp
theorem RT.done {l : List Obj} {s : Nat} {o : List Nat} {i kk q : Nat} (h : RT l s o i kk q) (ht : (needsI l kk).take q = needsI l kk) : RS l s o (i + 1) := by
  obtain ⟨⟨h1, h2, h3, h4⟩, ⟨hi, he⟩, h6⟩ := h
  refine ⟨h1, h2, h3, fun p hp hpi j hj => ?_⟩
  rcases Nat.lt_or_ge p i with h7 | h7
  · exact h4 p hp h7 j hj
  · have : p = i := by omega
    subst this
    rw [he, ← ht] at hj
    exact h6 j hj
theorem RS.done {l : List Obj} {s : Nat} {o : List Nat} {i : Nat} (h : RS l s o i) (hi : o.length ≤ i) (k : Nat) : k ∈ o ↔ RE l s k := by
  refine ⟨h.2.2.1 k, fun hk => ?_⟩
  induction hk with
  | refl => exact h.2.1
  | step _ hj ih =>
    obtain ⟨p, hp, rfl⟩ := List.getElem_of_mem ih
    exact h.2.2.2 p hp (by omega) _ hj
/-- the order of a root is what its object reaches -/
theorem stepN_RT {l : List Obj} {s i kk : Nat} : ∀ (ns : List (List UInt8)) (o o' : List Nat) (q : Nat), RT l s o i kk q → (∀ t, t < ns.length → ∀ u, ns[t]? = some u → (needsI l kk).take (q + t + 1) = (needsI l kk).take (q + t) ++ [fidx l u]) → stepN l o ns = .inl o' → RT l s o' i kk (q + ns.length) ∧ ∃ z, o' = o ++ z
  | [], o, o', q, h, _, he => by
    simp only [stepN] at he
    cases he
    exact ⟨h, [], by simp⟩
  | n :: ns, o, o', q, h, ht, he => by
    simp only [stepN] at he
    have h0 := ht 0 (by simp) n rfl
    simp only [Nat.add_zero] at h0
    cases hf : fidx l n with
    | none => rw [hf] at he; cases he
    | some k =>
      rw [hf] at he h0
      have hk := fidx_lt hf
      have hnext : RT l s (addO o (some k)) i kk (q + 1) := by
        simp only [addO]
        split
        · rename_i hc
          exact h.keep h0 (fun j hj => by cases hj; exact List.contains_iff_mem.1 hc)
        · rename_i hc
          exact h.add h0 hk ((Bool.not_eq_true _).mp hc)
      obtain ⟨h1, z, hz⟩ := stepN_RT ns _ o' (q + 1) hnext (fun t ht2 u hu => by
        have := ht (t + 1) (by simp; omega) u (by simpa using hu)
        rw [show q + 1 + t = q + (t + 1) by omega]
        exact this) he
      refine ⟨by rw [show q + (n :: ns).length = q + 1 + ns.length by simp; omega]; exact h1, ?_⟩
      subst hz
      simp only [addO]
      split
      · exact ⟨z, rfl⟩
      · exact ⟨[k] ++ z, by simp⟩
theorem closF_RS {l : List Obj} {s : Nat} : ∀ (f : Nat) (o o' : List Nat) (i : Nat), RS l s o i → l.length < i + f → closF l f o i = .inl o' → (∃ z, o' = o ++ z) ∧ Ord l o' ∧ ∀ k, k ∈ o' ↔ RE l s k
  | 0, o, o', i, h, hf, he => by
    simp only [closF] at he
    cases he
    have hi : o.length ≤ i := by have := h.1.le; omega
    exact ⟨⟨[], by simp⟩, h.1, h.done hi⟩
  | f + 1, o, o', i, h, hf, he => by
    rcases Nat.lt_or_ge i o.length with hi | hi
    · rw [closF_step l f o i hi] at he
      have hkl : o[i] < l.length := h.1.2 _ (List.getElem_mem hi)
      cases hst : stepN l o (needsAt l o[i]) with
      | inr n => rw [hst] at he; cases he
      | inl o1 =>
        rw [hst] at he
        obtain ⟨h1, z1, hz1⟩ := stepN_RT (needsAt l o[i]) o o1 0 (RT.start h hi) (fun t ht u hu => by
          rw [Nat.zero_add]
          have e : needsI l o[i] = (needsAt l o[i]).map (fidx l) := rfl
          obtain ⟨ht', hu'⟩ := List.getElem?_eq_some_iff.1 hu
          rw [e, List.take_succ_eq_append_getElem (by simpa using ht), List.getElem_map, hu']) hst
        have h2 := h1.done (List.take_of_length_le (by unfold needsI; simp))
        obtain ⟨⟨z, hz⟩, h3, h4⟩ := closF_RS f o1 o' (i + 1) h2 (by omega) he
        exact ⟨⟨z1 ++ z, by rw [hz, hz1]; simp⟩, h3, h4⟩
    · rw [closF_end l (f + 1) o i hi] at he
      cases he
      exact ⟨⟨[], by simp⟩, h.1, h.done hi⟩
theorem closR_RE {l : List Obj} {root : List UInt8} {o : List Nat} (h : closR l root = .inl o) : ∃ s, o[0]? = some s ∧ s < l.length ∧ Ord l o ∧ ∀ k, k ∈ o ↔ RE l s k := by
  unfold closR at h
  cases hf : fidx l root with
  | none => rw [hf] at h; cases h
  | some s =>
    rw [hf] at h
    have hs := fidx_lt hf
    obtain ⟨⟨z, hz⟩, h1, h2⟩ := closF_RS (l.length + 1) [s] o 0 (RS.start hs) (by omega) h
    exact ⟨s, by rw [hz]; rfl, hs, h1, h2⟩
/-- all of the order is begun, and nothing else -/
theorem Vis.all {l : List Obj} {ord m o m1 o1 : List Nat} {ks : List (Option Nat)} (h : Vis l ord m o ks m1 o1) : (∀ k ∈ m1, k ∈ m ∨ k ∈ o1) ∧ (∀ k ∈ o, k ∈ o1) ∧ (∀ k, some k ∈ ks → k < l.length → k ∈ ord → k ∈ m1) ∧ ∀ k ∈ o1, k ∈ o ∨ k ∈ ord := by
  induction h with
  | nil m o => exact ⟨fun k hk => Or.inl hk, fun k hk => hk, by simp, fun k hk => Or.inl hk⟩
  | none _ ih => exact ⟨ih.1, ih.2.1, fun k hk => ih.2.2.1 k (by simpa using hk), ih.2.2.2⟩
  | @skip m o m' o' k ks hw hv ih =>
    refine ⟨ih.1, ih.2.1, fun j hj hl ho => ?_, ih.2.2.2⟩
    rcases List.mem_cons.1 hj with hj | hj
    · cases hj
      have : k ∈ m := by
        unfold waitB at hw
        rw [decide_eq_true hl, List.contains_iff_mem.2 ho] at hw
        simpa using hw
      exact hv.sub _ this
    · exact ih.2.2.1 j hj hl ho
  | @go m o m1 o1 m' o' k ks hw hv1 hv2 ih1 ih2 =>
    have hko : k ∈ ord := by unfold waitB at hw; simp at hw; exact hw.2.1
    refine ⟨fun j hj => ?_, fun j hj => ih2.2.1 j (List.mem_append_left _ (ih1.2.1 j hj)), fun j hj hl ho => ?_, fun j hj => ?_⟩
    · rcases ih2.1 j hj with h3 | h3
      · rcases ih1.1 j h3 with h4 | h4
        · rcases List.mem_append.1 h4 with h5 | h5
          · exact Or.inl h5
          · simp at h5; subst h5; exact Or.inr (ih2.2.1 _ (by simp))
        · exact Or.inr (ih2.2.1 _ (List.mem_append_left _ h4))
      · exact Or.inr h3
    · rcases List.mem_cons.1 hj with hj | hj
      · cases hj
        exact hv2.sub _ (hv1.sub _ (by simp))
      · exact ih2.2.2.1 j hj hl ho
    · rcases ih2.2.2.2 j hj with h3 | h3
      · rcases List.mem_append.1 h3 with h4 | h4
        · exact ih1.2.2.2 j h4
        · simp at h4; subst h4; exact Or.inr hko
      · exact Or.inr h3
theorem vis_mem {l : List Obj} {ord m1 o1 : List Nat} (h : Vis l ord [] [] (ord.map some) m1 o1) (hl : ∀ k ∈ ord, k < l.length) (k : Nat) : k ∈ o1 ↔ k ∈ ord := by
  obtain ⟨h1, h2, h3, h4⟩ := h.all
  refine ⟨fun hk => ?_, fun hk => ?_⟩
  · rcases h4 k hk with h5 | h5
    · cases h5
    · exact h5
  · rcases h1 k (h3 k (by simpa using hk) (hl k hk) hk) with h5 | h5
    · cases h5
    · exact h5
theorem nodup_len {a b : List Nat} (ha : a.Nodup) (hb : b.Nodup) (h : ∀ k, k ∈ a ↔ k ∈ b) : a.length = b.length := by
  have key : ∀ (a b : List Nat), a.Nodup → (∀ k ∈ a, k ∈ b) → a.length ≤ b.length := by
    intro a
    induction a with
    | nil => intro b _ _; simp
    | cons x a ih =>
      intro b hn hs
      rw [List.nodup_cons] at hn
      have hx := hs x (List.mem_cons_self ..)
      have := ih (b.erase x) hn.2 (fun k hk => by
        have hne : k ≠ x := fun e => hn.1 (e ▸ hk)
        exact (List.mem_erase_of_ne hne).2 (hs k (List.mem_cons_of_mem _ hk)))
      rw [List.length_erase_of_mem hx] at this
      have := List.length_pos_of_mem hx
      simp; omega
  exact Nat.le_antisymm (key a b ha fun k hk => (h k).1 hk) (key b a hb fun k hk => (h k).2 hk)
end Go.Proofs.Ytfneikphgmjfbaa
