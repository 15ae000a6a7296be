/- Each is begun behind all that it needs, but what needs it, too: plain mathematics. -/
import Derived.Test.YtfneikphgmjfbaaGrW
namespace Go.Proofs.Ytfneikphgmjfbaa
set_option linter.unusedVariables false
set_option linter.unusedSimpArgs false
open Go.Joins Go.ChangeShapes Go.WideShapes Go.ChangeAt Go.RowKit

/-- v stands before u -/
def Pre (o : List Nat) (u v : Nat) : Prop := ∃ x y, o = x ++ u :: y ∧ v ∈ x
theorem Pre.app {o : List Nat} {u v : Nat} (h : Pre o u v) (z : List Nat) : Pre (o ++ z) u v := by
  obtain ⟨x, y, rfl, hv⟩ := h
  exact ⟨x, y ++ z, by simp, hv⟩
theorem Vis.app {l : List Obj} {ord m o m1 o1 : List Nat} {ks : List (Option Nat)} (h : Vis l ord m o ks m1 o1) : ∃ z, o1 = o ++ z := by
  induction h with
  | nil m o => exact ⟨[], by simp⟩
  | none _ ih => exact ih
  | skip _ _ ih => exact ih
  | @go m o m1 o1 m' o' k ks _ _ _ ih1 ih2 =>
    obtain ⟨z1, rfl⟩ := ih1
    obtain ⟨z2, rfl⟩ := ih2
    exact ⟨z1 ++ k :: z2, by simp⟩
theorem Vis.behind {l : List Obj} {ord m o m1 o1 : List Nat} {ks : List (Option Nat)} (h : Vis l ord m o ks m1 o1) : (∀ p ∈ m, p ∉ o → ∀ k, some k ∈ ks → RE l p k) →
    ∀ u ∈ o1, u ∉ o → ∀ v, some v ∈ needsI l u → v ∈ ord → v < l.length → Pre o1 u v ∨ RE l v u := by
  induction h with
  | nil m o => exact fun _ u hu hn => absurd hu hn
  | none _ ih => exact fun hp => ih fun p hm ho k hk => hp p hm ho k (List.mem_cons_of_mem _ hk)
  | skip _ _ ih => exact fun hp => ih fun p hm ho k hk => hp p hm ho k (List.mem_cons_of_mem _ hk)
  | @go m o m1 o1 m' o' k ks hw hv1 hv2 ih1 ih2 =>
    intro hp u hu hn v hv hvo hvl
    obtain ⟨a1, a2, a3, -⟩ := hv1.all
    have i1 := ih1 (fun p hm ho j hj => by
      rcases List.mem_append.1 hm with hm | hm
      · exact .step (hp p hm ho k (List.mem_cons_self ..)) hj
      · simp at hm; subst hm; exact .step .refl hj)
    have i2 := ih2 (fun p hm ho j hj => by
      have hno1 : p ∉ o1 := fun q => ho (List.mem_append_left _ q)
      have hpk : p ≠ k := fun e => ho (by rw [e]; simp)
      rcases a1 p hm with h1 | h1
      · rcases List.mem_append.1 h1 with h1 | h1
        · exact hp p h1 (fun q => hno1 (a2 p q)) j (List.mem_cons_of_mem _ hj)
        · simp at h1; exact absurd h1 hpk
      · exact absurd h1 hno1)
    obtain ⟨z, rfl⟩ := hv2.app
    by_cases hk : u ∈ o1 ++ [k]
    · by_cases hu1 : u ∈ o1
      · rcases i1 u hu1 hn v hv hvo hvl with h1 | h1
        · exact Or.inl ((h1.app _).app _)
        · exact Or.inr h1
      · have huk : u = k := by
          rcases List.mem_append.1 hk with h1 | h1
          · exact absurd h1 hu1
          · simpa using h1
        subst huk
        have hvm := a3 v hv hvl hvo
        rcases a1 v hvm with h1 | h1
        · rcases List.mem_append.1 h1 with h1 | h1
          · by_cases hvo2 : v ∈ o
            · exact Or.inl ⟨o1, z, by simp, a2 v hvo2⟩
            · exact Or.inr (hp v h1 hvo2 u (List.mem_cons_self ..))
          · simp at h1; subst h1; exact Or.inr .refl
        · exact Or.inl ⟨o1, z, by simp, h1⟩
    · exact i2 u hu hk v hv hvo hvl
theorem behind {l : List Obj} {ord m1 b : List Nat} (h : Vis l ord [] [] (ord.map some) m1 b) (hO : Ord l ord) (hb : b.Nodup) (i k : Nat) (hik : i < k) (hk : k < b.length) (hn : some b[k] ∈ needsI l b[i]) : RE l b[k] b[i] := by
  have hmem := vis_mem h hO.2
  have hkb := (hmem b[k]).1 (List.getElem_mem hk)
  rcases h.behind (fun p hp => absurd hp (by simp)) b[i] (List.getElem_mem (by omega)) (by simp) b[k] hn hkb (hO.2 _ hkb) with h1 | h1
  · exfalso
    obtain ⟨x, y, he, hv⟩ := h1
    obtain ⟨p, hp, hpe⟩ := List.getElem_of_mem hv
    have hpb : p < b.length := by rw [he]; simp; omega
    have e1 : b[p] = b[k] := by
      have : b[p]? = some b[k] := by
        have e3 : (x ++ b[i] :: y)[p]? = some b[k] := by rw [List.getElem?_append_left hp, List.getElem?_eq_getElem hp, hpe]
        rw [← he] at e3; exact e3
      rw [List.getElem?_eq_getElem hpb] at this
      exact Option.some.inj this
    have hpk := (List.getElem_inj (h₀ := hpb) (h₁ := hk) hb).1 e1
    have hxb : x.length < b.length := by rw [he]; simp
    have e2 : b[x.length] = b[i] := by
      have : b[x.length]? = some b[i] := by
        have e3 : (x ++ b[i] :: y)[x.length]? = some b[i] := by rw [List.getElem?_append_right (Nat.le_refl _)]; simp
        rw [← he] at e3; exact e3
      rw [List.getElem?_eq_getElem hxb] at this
      exact Option.some.inj this
    have hxi := (List.getElem_inj (h₀ := hxb) (h₁ := (by omega : i < b.length)) hb).1 e2
    omega
  · exact h1
end Go.Proofs.Ytfneikphgmjfbaa
