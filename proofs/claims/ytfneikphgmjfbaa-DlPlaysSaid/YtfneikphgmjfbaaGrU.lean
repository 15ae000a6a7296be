/- What one object needs, by going on until nothing comes: plain mathematics. -/
import Derived.Test.YtfneikphgmjfbaaGrS
namespace Go.Proofs.Ytfneikphgmjfbaa
set_option linter.unusedVariables false
set_option linter.unusedSimpArgs false
open Go.Joins Go.ChangeShapes Go.WideShapes Go.ChangeAt Go.RowKit

def SND (l : List Obj) (s : Nat) (o : List Nat) : Prop := ∀ k ∈ o, RE l s k ∧ k < l.length
def CLO (l : List Obj) (o : List Nat) : Prop := ∀ k ∈ o, ∀ j, some j ∈ needsI l k → j ∈ o
def cnt (l : List Obj) (o : List Nat) : Nat := (List.range l.length).countP o.contains
def RI (l : List Obj) (s : Nat) (o0 o : List Nat) (i j : Nat) : Prop :=
  SND l s o ∧ (∀ k ∈ o0, k ∈ o) ∧ (CLO l o0 → ∀ k ∈ o, k ∈ o0) ∧ (∀ i', i' < i → i' ∈ o0 → ∀ j', some j' ∈ needsI l i' → j' ∈ o) ∧ (i ∈ o0 → ∀ j', j' < j → some j' ∈ needsI l i → j' ∈ o)
def RQ (l : List Obj) (o : List Nat) (t : Nat) : Prop := CLO l o ∨ t < cnt l o
theorem needsI_lt {l : List Obj} {k j : Nat} (h : some j ∈ needsI l k) : j < l.length := by
  unfold needsI at h
  rw [List.mem_map] at h
  obtain ⟨n, -, hn⟩ := h
  exact fidx_lt hn
theorem RI.start {l : List Obj} {s : Nat} {o : List Nat} (h : SND l s o) : RI l s o o 0 0 := ⟨h, fun k hk => hk, fun _ k hk => hk, fun i' hi => by omega, fun _ j' hj => by omega⟩
theorem RI.keep {l : List Obj} {s i j : Nat} {o0 o : List Nat} (h : RI l s o0 o i j) (hn : i ∈ o → ¬ some j ∈ needsI l i) : RI l s o0 o i (j + 1) := by
  obtain ⟨h1, h2, h3, h4, h5⟩ := h
  refine ⟨h1, h2, h3, h4, fun hi j' hj hs => ?_⟩
  rcases Nat.lt_or_ge j' j with h6 | h6
  · exact h5 hi j' h6 hs
  · have : j' = j := by omega
    subst this
    exact absurd hs (hn (h2 i hi))
theorem RI.add {l : List Obj} {s i j : Nat} {o0 o : List Nat} (h : RI l s o0 o i j) (hi : i ∈ o) (hn : some j ∈ needsI l i) : RI l s o0 (o ++ [j]) i (j + 1) := by
  obtain ⟨h1, h2, h3, h4, h5⟩ := h
  refine ⟨fun k hk => ?_, fun k hk => List.mem_append_left _ (h2 k hk), fun hc k hk => ?_, fun i' hi' h0 j' hj => List.mem_append_left _ (h4 i' hi' h0 j' hj), fun h0 j' hj hs => ?_⟩
  · rcases List.mem_append.1 hk with hk | hk
    · exact h1 k hk
    · simp at hk; subst hk; exact ⟨.step (h1 i hi).1 hn, needsI_lt hn⟩
  · rcases List.mem_append.1 hk with hk | hk
    · exact h3 hc k hk
    · simp at hk; subst hk; exact hc i (h3 hc i hi) _ hn
  · rcases Nat.lt_or_ge j' j with h6 | h6
    · exact List.mem_append_left _ (h5 h0 j' h6 hs)
    · have : j' = j := by omega
      subst this
      simp
theorem RI.row {l : List Obj} {s i j : Nat} {o0 o : List Nat} (h : RI l s o0 o i j) (hj : l.length ≤ j) : RI l s o0 o (i + 1) 0 := by
  obtain ⟨h1, h2, h3, h4, h5⟩ := h
  refine ⟨h1, h2, h3, fun i' hi h0 j' hs => ?_, fun _ j' hj => by omega⟩
  rcases Nat.lt_or_ge i' i with h6 | h6
  · exact h4 i' h6 h0 j' hs
  · have : i' = i := by omega
    subst this
    exact h5 h0 j' (by have := needsI_lt hs; omega) hs
theorem RI.done {l : List Obj} {s i t : Nat} {o0 o : List Nat} (h : RI l s o0 o i 0) (hi : l.length ≤ i) (h0 : SND l s o0) (hq : RQ l o0 t) : SND l s o ∧ RQ l o (t + 1) := by
  obtain ⟨h1, h2, h3, h4, -⟩ := h
  refine ⟨h1, ?_⟩
  have full : ∀ k ∈ o0, ∀ j, some j ∈ needsI l k → j ∈ o := fun k hk j hj => h4 k (by have := (h0 k hk).2; omega) hk j hj
  by_cases hc : ∀ k ∈ o, k ∈ o0
  · exact Or.inl fun k hk j hj => full k (hc k hk) j hj
  · have hnc : ¬ CLO l o0 := fun c => hc (h3 c)
    rcases hq with hq | hq
    · exact absurd hq hnc
    · right
      obtain ⟨k, hk⟩ := Classical.not_forall.1 hc
      obtain ⟨hk1, hk2⟩ := Classical.not_imp.1 hk
      have : cnt l o0 < cnt l o := by
        unfold cnt
        exact countP_lt (fun x hx => List.contains_iff_mem.2 (h2 x (List.contains_iff_mem.1 hx))) (List.mem_range.2 (h1 k hk1).2) (List.contains_iff_mem.2 hk1) (by rw [Bool.eq_false_iff]; exact fun e => hk2 (List.contains_iff_mem.1 e))
      omega
theorem RQ.all {l : List Obj} {s : Nat} {o : List Nat} {t : Nat} (h : RQ l o t) (ht : l.length ≤ t) (hs : s ∈ o) (hn : SND l s o) (k : Nat) : k ∈ o ↔ RE l s k := by
  have hc : CLO l o := by
    rcases h with h | h
    · exact h
    · have := List.countP_le_length (p := o.contains) (l := List.range l.length)
      unfold cnt at h
      rw [List.length_range] at this
      omega
  refine ⟨fun hk => (hn k hk).1, fun hk => ?_⟩
  induction hk with
  | refl => exact hs
  | step _ hj ih => exact hc _ ih _ hj
theorem RQ.start {l : List Obj} {s : Nat} (hs : s < l.length) : RQ l [s] 0 := by
  right
  unfold cnt
  exact List.countP_pos_iff.2 ⟨s, List.mem_range.2 hs, by simp⟩
/-- strictly rising lists with the same members are the same -/
theorem rising_eq : ∀ (a b : List Nat), a.Pairwise (· < ·) → b.Pairwise (· < ·) → (∀ k, k ∈ a ↔ k ∈ b) → a = b
  | [], [], _, _, _ => rfl
  | [], y :: b, _, _, h => absurd ((h y).2 (by simp)) (by simp)
  | x :: a, [], _, _, h => absurd ((h x).1 (by simp)) (by simp)
  | x :: a, y :: b, ha, hb, h => by
    rw [List.pairwise_cons] at ha hb
    have hxy : x = y := by
      have h1 := (h x).1 (by simp)
      have h2 := (h y).2 (by simp)
      rcases List.mem_cons.1 h1 with h1 | h1
      · exact h1
      · rcases List.mem_cons.1 h2 with h2 | h2
        · exact h2.symm
        · have := hb.1 x h1; have := ha.1 y h2; omega
    subst hxy
    rw [rising_eq a b ha.2 hb.2 fun k => ⟨fun hk => by
      have h1 := (h k).1 (List.mem_cons_of_mem _ hk)
      have h2 := ha.1 k hk
      rcases List.mem_cons.1 h1 with h1 | h1
      · omega
      · exact h1, fun hk => by
      have h1 := (h k).2 (List.mem_cons_of_mem _ hk)
      have h2 := hb.1 k hk
      rcases List.mem_cons.1 h1 with h1 | h1
      · omega
      · exact h1⟩]
theorem rising_of {l : List Obj} {o : List Nat} (h : Ord l o) (hs : (ordZ o).Pairwise (fun x y => decide (x ≤ y) = true)) : o.Pairwise (· < ·) := by
  unfold ordZ at hs
  rw [List.pairwise_map] at hs
  have := List.Pairwise.and hs h.1
  exact this.imp fun {a b} ⟨h1, h2⟩ => by
    have := of_decide_eq_true h1
    omega
theorem rising_range (n : Nat) (p : Nat → Bool) : ((List.range n).filter p).Pairwise (· < ·) := List.Pairwise.filter _ List.pairwise_lt_range
def needsB (l : List Obj) (i j : Nat) : Bool := (needsI l i).contains (some j)
theorem needsB_iff (l : List Obj) (i j : Nat) : needsB l i j = true ↔ some j ∈ needsI l i := by unfold needsB; exact List.contains_iff_mem
end Go.Proofs.Ytfneikphgmjfbaa
