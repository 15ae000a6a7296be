/- A name is told of iff it is known: plain mathematics. -/
import Derived.Test.YthammjpadbbflaaLkX
import Derived.Test.YthammjpadbbflaaLkT
namespace Go.Proofs.Ythammjpadbbflaa
set_option linter.unusedVariables false
set_option linter.unusedSimpArgs false

theorem hitS_nil (s : List UInt8) (y : Sym) : hitS s [] y = true ↔ shownB y = true ∧ y.name = s := by
  unfold hitS isB
  simp
theorem findZ_iff (l : List Sym) (s : List UInt8) : 0 ≤ findZ l s [] 0 ↔ ∃ y ∈ l, shownB y = true ∧ y.name = s := by
  constructor
  · intro h
    obtain ⟨j, hj, -, hh⟩ := findZ_pos h
    exact ⟨l[j], List.getElem_mem hj, (hitS_nil s l[j]).1 hh⟩
  · rintro ⟨y, hy, h⟩
    have hh := (hitS_nil s y).2 h
    unfold findZ
    simp only [List.drop_zero]
    cases e : l.findIdx? (hitS s []) with
    | some k => simp
    | none =>
      rw [List.findIdx?_eq_none_iff] at e
      rw [e y hy] at hh
      cases hh
theorem inL_iff (l : List Ob) (s : List UInt8) (sc : List Nat) : 0 ≤ (inL l s [] sc).1 ↔ s ∈ namesL l sc := by
  have hm : s ∈ namesL l sc ↔ ∃ k ∈ sc, ∃ y ∈ symsAt l k, shownB y = true ∧ y.name = s := by
    unfold namesL namesO
    simp only [List.mem_flatMap, List.mem_map, List.mem_filter]
    exact ⟨fun ⟨k, hk, y, ⟨h1, h2⟩, h3⟩ => ⟨k, hk, y, h1, h2, h3⟩, fun ⟨k, hk, y, h1, h2, h3⟩ => ⟨k, hk, y, ⟨h1, h2⟩, h3⟩⟩
  rw [hm]
  induction sc with
  | nil => exact ⟨fun h => absurd h (by show ¬ (0 : Int) ≤ -1; omega), fun ⟨k, hk, _⟩ => by simp at hk⟩
  | cons k r ih =>
    have hu : inL l s [] (k :: r) = if 0 ≤ findZ (symsAt l k) s [] 0 then ((k : Int), findZ (symsAt l k) s [] 0) else inL l s [] r := rfl
    rw [hu]
    by_cases h : 0 ≤ findZ (symsAt l k) s [] 0
    · rw [if_pos h]
      exact ⟨fun _ => ⟨k, List.mem_cons_self .., (findZ_iff _ _).1 h⟩, fun _ => by show (0 : Int) ≤ (k : Int); omega⟩
    · rw [if_neg h]
      have ih' := ih (by
        unfold namesL namesO
        simp only [List.mem_flatMap, List.mem_map, List.mem_filter]
        exact ⟨fun ⟨k, hk, y, ⟨h1, h2⟩, h3⟩ => ⟨k, hk, y, h1, h2, h3⟩, fun ⟨k, hk, y, h1, h2, h3⟩ => ⟨k, hk, y, ⟨h1, h2⟩, h3⟩⟩)
      refine Iff.trans ih' ⟨fun ⟨k', hk', q⟩ => ⟨k', List.mem_cons_of_mem _ hk', q⟩, fun ⟨k', hk', q⟩ => ?_⟩
      rcases List.mem_cons.1 hk' with e | e
      · subst e
        exact absurd ((findZ_iff _ _).2 q) h
      · exact ⟨k', e, q⟩
theorem known_all (l : List Ob) (s : List UInt8) (sc : List Nat) : decide (0 ≤ (inL l s [] sc).1) = (allL l sc).contains s := by
  rw [Bool.eq_iff_iff, decide_eq_true_eq, inL_iff, List.contains_iff_mem, mem_allL]
end Go.Proofs.Ythammjpadbbflaa
