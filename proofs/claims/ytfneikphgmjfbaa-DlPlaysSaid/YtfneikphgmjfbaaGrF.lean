/- In which order objects are begun: plain mathematics. -/
import Derived.Test.YtfneikphgmjfbaaGrE
namespace Go.Proofs.Ytfneikphgmjfbaa
set_option linter.unusedVariables false
set_option linter.unusedSimpArgs false
open Go.Joins Go.ChangeShapes Go.WideShapes Go.ChangeAt Go.RowKit

/-- does a place wait: one of the order that was not met -/
def waitB (l : List Obj) (ord met : List Nat) (k : Nat) : Bool := decide (k < l.length) && (ord.contains k && !met.contains k)
def needsI (l : List Obj) (k : Nat) : List (Option Nat) := (needsAt l k).map (fidx l)
/-- places are begun, one behind the other: what was met, and what was begun -/
inductive Vis (l : List Obj) (ord : List Nat) : List Nat → List Nat → List (Option Nat) → List Nat → List Nat → Prop
  | nil (m o : List Nat) : Vis l ord m o [] m o
  | none {m o m' o' : List Nat} {ks : List (Option Nat)} : Vis l ord m o ks m' o' → Vis l ord m o (none :: ks) m' o'
  | skip {m o m' o' : List Nat} {k : Nat} {ks : List (Option Nat)} : waitB l ord m k = false → Vis l ord m o ks m' o' → Vis l ord m o (some k :: ks) m' o'
  | go {m o m1 o1 m' o' : List Nat} {k : Nat} {ks : List (Option Nat)} : waitB l ord m k = true → Vis l ord (m ++ [k]) o (needsI l k) m1 o1 → Vis l ord m1 (o1 ++ [k]) ks m' o' → Vis l ord m o (some k :: ks) m' o'
theorem Vis.det {l : List Obj} {ord m o m1 o1 : List Nat} {ks : List (Option Nat)} (h : Vis l ord m o ks m1 o1) : ∀ {m2 o2 : List Nat}, Vis l ord m o ks m2 o2 → m1 = m2 ∧ o1 = o2 := by
  induction h with
  | nil m o => intro m2 o2 h2; cases h2; exact ⟨rfl, rfl⟩
  | none _ ih => intro m2 o2 h2; cases h2 with | none h3 => exact ih h3
  | skip hw _ ih =>
    intro m2 o2 h2
    cases h2 with
    | skip _ h3 => exact ih h3
    | go hw2 _ _ => rw [hw] at hw2; cases hw2
  | go hw _ _ ih1 ih2 =>
    intro m2 o2 h2
    cases h2 with
    | skip hw2 _ => rw [hw] at hw2; cases hw2
    | go _ h3 h4 =>
      obtain ⟨rfl, rfl⟩ := ih1 h3
      exact ih2 h4
theorem Vis.snoc {l : List Obj} {ord m o m1 o1 m2 o2 : List Nat} {ks js : List (Option Nat)} (h : Vis l ord m o ks m1 o1) : Vis l ord m1 o1 js m2 o2 → Vis l ord m o (ks ++ js) m2 o2 := by
  induction h with
  | nil m o => exact id
  | none _ ih => exact fun h2 => .none (ih h2)
  | skip hw _ ih => exact fun h2 => .skip hw (ih h2)
  | go hw h1 _ _ ih2 => exact fun h2 => .go hw h1 (ih2 h2)
/-- how many places wait -/
def waits (l : List Obj) (ord met : List Nat) : Nat := (List.range l.length).countP (waitB l ord met)
theorem countP_lt {p q : Nat → Bool} {xs : List Nat} (hpq : ∀ x, q x = true → p x = true) {k : Nat} (hk : k ∈ xs) (hp : p k = true) (hq : q k = false) : xs.countP q < xs.countP p := by
  induction xs with
  | nil => cases hk
  | cons x xs ih =>
    have hle : xs.countP q ≤ xs.countP p := List.countP_mono_left fun a _ ha => hpq a ha
    rw [List.countP_cons, List.countP_cons]
    rcases List.mem_cons.1 hk with rfl | h
    · rw [hp, hq]; simp; omega
    · have := ih h
      by_cases hx : q x = true
      · rw [if_pos hx, if_pos (hpq x hx)]; omega
      · rw [if_neg hx]; omega
theorem wait_mono {l : List Obj} {ord m m' : List Nat} (h : ∀ k ∈ m, k ∈ m') (k : Nat) (hw : waitB l ord m' k = true) : waitB l ord m k = true := by
  unfold waitB at hw ⊢
  simp only [Bool.and_eq_true, decide_eq_true_eq, Bool.not_eq_true', List.contains_eq_mem, decide_eq_false_iff_not] at hw ⊢
  exact ⟨hw.1, hw.2.1, fun hm => hw.2.2 (h k hm)⟩
theorem waits_mono {l : List Obj} {ord m m' : List Nat} (h : ∀ k ∈ m, k ∈ m') : waits l ord m' ≤ waits l ord m := List.countP_mono_left fun a _ ha => wait_mono h a ha
theorem waits_add {l : List Obj} {ord m : List Nat} {k : Nat} (hw : waitB l ord m k = true) : waits l ord (m ++ [k]) < waits l ord m := by
  have hk : k < l.length := by unfold waitB at hw; simp only [Bool.and_eq_true, decide_eq_true_eq] at hw; exact hw.1
  refine countP_lt (fun x hx => wait_mono (fun j hj => List.mem_append_left _ hj) x hx) (List.mem_range.mpr hk) hw ?_
  unfold waitB
  simp
theorem Vis.sub {l : List Obj} {ord m o m1 o1 : List Nat} {ks : List (Option Nat)} (h : Vis l ord m o ks m1 o1) : ∀ k ∈ m, k ∈ m1 := by
  induction h with
  | nil m o => exact fun k hk => hk
  | none _ ih => exact ih
  | skip _ _ ih => exact ih
  | go _ _ _ ih1 ih2 => exact fun k hk => ih2 k (ih1 k (List.mem_append_left _ hk))
theorem waits_le {l : List Obj} {ord m : List Nat} : waits l ord m ≤ l.length := by
  have := List.countP_le_length (p := waitB l ord m) (l := List.range l.length)
  simpa [waits] using this
/-- places that were begun wait no more; each once -/
theorem Vis.fresh {l : List Obj} {ord m o m1 o1 : List Nat} {ks : List (Option Nat)} (h : Vis l ord m o ks m1 o1) : (∀ k ∈ o, k ∈ m) → (m.Nodup ∧ o.Nodup ∧ (∀ k ∈ o, k < l.length)) → (∀ k ∈ o1, k ∈ m1) ∧ m1.Nodup ∧ o1.Nodup ∧ (∀ k ∈ o1, k < l.length) := by
  have gen : (∀ k ∈ o, k ∈ m) → (m.Nodup ∧ o.Nodup ∧ (∀ k ∈ o, k < l.length)) → ((∀ k ∈ o1, k ∈ m1) ∧ m1.Nodup ∧ o1.Nodup ∧ (∀ k ∈ o1, k < l.length)) ∧ ∀ k ∈ m, k ∈ o1 → k ∈ o := by
    induction h with
    | nil m o => exact fun h1 h2 => ⟨⟨h1, h2⟩, fun k _ hk => hk⟩
    | none _ ih => exact ih
    | skip _ _ ih => exact ih
    | @go m o m1 o1 m' o' k ks hw _ hv2 ih1 ih2 =>
      intro h1 ⟨hm, ho, hl⟩
      have hk : k < l.length := by unfold waitB at hw; simp only [Bool.and_eq_true, decide_eq_true_eq] at hw; exact hw.1
      have hkm : k ∉ m := by unfold waitB at hw; simp at hw; exact hw.2.2
      have hm' : (m ++ [k]).Nodup := by
        rw [List.nodup_append]
        exact ⟨hm, by simp, fun a ha b hb => by simp at hb; subst hb; intro e; subst e; exact hkm ha⟩
      obtain ⟨⟨a1, a2, a3, a4⟩, a5⟩ := ih1 (fun j hj => List.mem_append_left _ (h1 j hj)) ⟨hm', ho, hl⟩
      have hko1 : k ∉ o1 := fun hko => hkm (h1 k (a5 k (by simp) hko))
      have hsub := Vis.sub (by assumption : Vis l ord (m ++ [k]) o (needsI l k) m1 o1)
      have ho1' : (o1 ++ [k]).Nodup := by
        rw [List.nodup_append]
        exact ⟨a3, by simp, fun a ha b hb => by simp at hb; subst hb; intro e; subst e; exact hko1 ha⟩
      obtain ⟨⟨b1, b2, b3, b4⟩, b5⟩ := ih2 (fun j hj => by
        rcases List.mem_append.1 hj with hj | hj
        · exact a1 j hj
        · simp at hj; subst hj; exact hsub j (by simp)) ⟨a2, ho1', fun j hj => by
          rcases List.mem_append.1 hj with hj | hj
          · exact a4 j hj
          · simp at hj; omega⟩
      refine ⟨⟨b1, b2, b3, b4⟩, fun j hj hjo => ?_⟩
      have hj1 := b5 j (hsub j (List.mem_append_left _ hj)) hjo
      rcases List.mem_append.1 hj1 with h3 | h3
      · exact a5 j (List.mem_append_left _ hj) h3
      · simp at h3; subst h3; exact absurd hj hkm
  exact fun h1 h2 => (gen h1 h2).1
end Go.Proofs.Ytfneikphgmjfbaa
