/- What a right object's parts are: plain mathematics. -/
import Derived.Test.YtidnojjhchmmgaaCeX
import Derived.Test.YtidnojjhchmmgaaCeW
namespace Go.Proofs.Ytidnojjhchmmgaa
set_option linter.unusedVariables false
set_option linter.unusedSimpArgs false

/-- a segment, and where the one ahead of it ends -/
theorem segs_at {f : Int} {l : List Seg} (h : segsB f l = true) : ∀ k (hk : k < l.length), (l[k].place % 256 = 0 ∧ 1 ≤ l[k].size ∧ l[k].size ≤ 2048 ∧ l[k].place + l[k].size ≤ 16384 ∧ 1 ≤ l[k].flags ∧ l[k].flags ≤ 5) ∧ (if hk0 : k = 0 then f ≤ l[k].place else upP ((l[k-1]'(by omega)).place + (l[k-1]'(by omega)).size) ≤ l[k].place) := by
  induction l generalizing f with
  | nil => intro k hk; simp at hk
  | cons s r ih =>
    simp only [segsB, Bool.and_eq_true] at h
    have h1 := h.1
    simp only [segB, Bool.and_eq_true, decide_eq_true_eq] at h1
    have ih' := ih h.2
    intro k hk
    rcases Nat.eq_zero_or_pos k with rfl | hp
    · refine ⟨?_, ?_⟩
      · show s.place % 256 = 0 ∧ 1 ≤ s.size ∧ s.size ≤ 2048 ∧ s.place + s.size ≤ 16384 ∧ 1 ≤ s.flags ∧ s.flags ≤ 5
        omega
      · rw [dif_pos rfl]
        show f ≤ s.place
        omega
    · obtain ⟨j, rfl⟩ : ∃ j, k = j + 1 := ⟨k - 1, by omega⟩
      have hj : j < r.length := by simpa using hk
      obtain ⟨g1, g2⟩ := ih' j hj
      refine ⟨by simpa using g1, ?_⟩
      rw [dif_neg (by omega)]
      rcases Nat.eq_zero_or_pos j with rfl | hjp
      · rw [dif_pos rfl] at g2
        simpa using g2
      · obtain ⟨i, rfl⟩ : ∃ i, j = i + 1 := ⟨j - 1, by omega⟩
        rw [dif_neg (by omega)] at g2
        simpa using g2
theorem segs_up {f : Int} {l : List Seg} (h : segsB f l = true) (j k : Nat) (hjk : j < k) (hk : k < l.length) : (l[j]'(by omega)).place + (l[j]'(by omega)).size ≤ l[k].place := by
  induction k with
  | zero => omega
  | succ k ih =>
    have g := (segs_at h (k + 1) hk).2
    rw [dif_neg (by omega)] at g
    have g : upP (l[k].place + l[k].size) ≤ l[k + 1].place := g
    unfold upP at g
    rcases Nat.lt_or_ge j k with h1 | h1
    · have h2 := ih h1 (by omega)
      have h3 := (segs_at h k (by omega)).1
      omega
    · obtain rfl : j = k := by omega
      omega
/-- the first segment that has some bytes is the one that has them -/
theorem at_write {l : List Seg} {x n : Int} (h : segsB 0 l = true) (hn : 0 < n) (hw : writeB l x n = true) : ∃ k : Nat, ∃ hk : k < l.length, atF l x n = (k : Int) ∧ (l[k].flags = 2 ∨ l[k].flags = 3) := by
  obtain ⟨s, hs, hp⟩ := List.any_eq_true.1 hw
  obtain ⟨k, hk, rfl⟩ := List.getElem_of_mem hs
  simp only [Bool.and_eq_true, decide_eq_true_eq] at hp
  refine ⟨k, hk, ?_, hp.1⟩
  refine firstI_some (p := fun s => hasB s x n) hk hp.2 (fun j hj => ?_)
  rw [Bool.eq_false_iff]
  intro hh
  have h1 := segs_up h j k hj hk
  have h2 := hp.2
  simp only [hasB, Bool.and_eq_true, decide_eq_true_eq] at hh h2
  omega
theorem rels_at {l : List Seg} {sy : List Sym} {f : Int} {r : List Rel} (h : relsB l sy f r = true) : ∀ k (hk : k < r.length), 0 ≤ r[k].sym ∧ r[k].sym < sy.length ∧ writeB l r[k].place (roomZ sy r[k].sym) = true := by
  induction r generalizing f with
  | nil => intro k hk; simp at hk
  | cons x r ih =>
    simp only [relsB, Bool.and_eq_true] at h
    have h1 := h.1
    simp only [relB, Bool.and_eq_true, decide_eq_true_eq] at h1
    intro k hk
    rcases Nat.eq_zero_or_pos k with rfl | hp
    · exact ⟨h1.2.1, h1.2.2.1, h1.2.2.2.2⟩
    · obtain ⟨j, rfl⟩ : ∃ j, k = j + 1 := ⟨k - 1, by omega⟩
      exact ih h.2 j (by simpa using hk)
theorem syms_at {l : List Seg} {s : Sym} (h : symB l s = true) (hd : s.defd = true) : 0 ≤ atF l s.place s.size := by
  unfold symB at h
  rw [if_pos hd] at h
  simp only [Bool.and_eq_true, decide_eq_true_eq] at h
  exact h.2.2.1
theorem parse_bad {b : List UInt8} (h : (parseF b).2 ≠ 0) : (parseF b).1 = emptyC := by
  unfold parseF parseR at h ⊢
  by_cases h1 : wrongP (objP ⟨b, 0⟩) = 0
  · rw [if_pos h1] at h ⊢
    by_cases h2 : checkC (objP ⟨b, 0⟩).1 = 0
    · rw [if_pos h2] at h; exact absurd rfl h
    · rw [if_neg h2]
  · rw [if_neg h1]
theorem parse_right {b : List UInt8} {o : Ob} (h : (parseF b).2 = 0) (ho : coreO o = (parseF b).1) : checkF o = 0 := by
  obtain ⟨-, -, -, h4, h5⟩ := parse_ok h
  rw [check_core, ho, h5, h4]
theorem and6 (f : Int) (h1 : 1 ≤ f) (h5 : f ≤ 5) : ¬ bits .and .i64 f 6 = 6 := by
  have : f = 1 ∨ f = 2 ∨ f = 3 ∨ f = 4 ∨ f = 5 := by omega
  rcases this with rfl | rfl | rfl | rfl | rfl <;> decide
theorem and2w (f : Int) (h : f = 2 ∨ f = 3) : ¬ bits .and .i64 f 2 = 0 := by
  rcases h with rfl | rfl <;> decide
end Go.Proofs.Ytidnojjhchmmgaa
