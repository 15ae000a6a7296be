/- Programs without labels stand one behind the other: plain mathematics. -/
import Derived.Test.YtdpmihlmfephiaaGreatDoorAe2
namespace Go.Proofs.YtdpmihlmfephiaaGreatDoor
set_option linter.unusedVariables false
set_option linter.unusedSimpArgs false
open Go

theorem split_two (t : List UInt8) : ∀ (k : Nat) (s : List UInt8), s.length ≤ k → Lib.split (s ++ [10] ++ t) [10] = Lib.split s [10] ++ Lib.split t [10] := by
  intro k
  induction k with
  | zero =>
    intro s h
    obtain rfl : s = [] := List.eq_nil_of_length_eq_zero (by omega)
    rw [split_at 10 [] [] t (by simp), split_one 10 [] [] (by simp)]
    rfl
  | succ k ih =>
    intro s h
    rcases take_split 10 s with ⟨h1, -⟩ | ⟨r, h1, h2⟩
    · rw [split_at 10 [] s t h1, split_one 10 [] s h1]
      rfl
    · obtain ⟨a, ha⟩ : ∃ a, s.takeWhile (fun x => x != 10) = a := ⟨_, rfl⟩
      rw [ha] at h1 h2
      have hr : r.length ≤ k := by rw [h1, List.length_append, List.length_cons] at h; omega
      have e1 : s ++ [10] ++ t = a ++ [10] ++ (r ++ [10] ++ t) := by rw [h1]; simp
      have e2 : s = a ++ [10] ++ r := by rw [h1]; simp
      rw [e1, split_at 10 [] a _ h2, ih r hr]
      conv => rhs; rw [e2, split_at 10 [] a r h2]
      rfl
theorem lines_two (s t : List UInt8) : linesF (s ++ [10] ++ t) = linesF s ++ linesF t := by
  unfold linesF
  rw [split_two t s.length s (Nat.le_refl _), List.map_append]
theorem mem_trimB {c d : UInt8} {l : List UInt8} (h : c ∈ Lib.trimB l d) : c ∈ l := by
  unfold Lib.trimB Lib.trimLeftB Lib.trimRightB at h
  have h1 := (List.dropWhile_sublist _).subset h
  have h2 := (List.dropWhile_sublist _).subset (List.mem_reverse.1 h1)
  exact List.mem_reverse.1 h2
theorem cut_mem {c b : UInt8} {l : List UInt8} (h : c ∈ (Lib.cut l [b]).1) : c ∈ l := by
  rw [← take_cut b l] at h
  exact (List.takeWhile_sublist _).subset h
theorem split_mem {c : UInt8} : ∀ (k : Nat) (s : List UInt8), s.length ≤ k → ∀ x ∈ Lib.split s [10], c ∈ x → c ∈ s := by
  intro k
  induction k with
  | zero =>
    intro s h x hx hc
    obtain rfl : s = [] := List.eq_nil_of_length_eq_zero (by omega)
    rw [split_one 10 [] [] (by simp)] at hx
    simp at hx
    subst hx; simp at hc
  | succ k ih =>
    intro s h x hx hc
    rcases take_split 10 s with ⟨h1, -⟩ | ⟨r, h1, h2⟩
    · rw [split_one 10 [] s h1] at hx
      simp at hx
      subst hx; exact hc
    · obtain ⟨a, ha⟩ : ∃ a, s.takeWhile (fun x => x != 10) = a := ⟨_, rfl⟩
      rw [ha] at h1 h2
      have hr : r.length ≤ k := by rw [h1, List.length_append, List.length_cons] at h; omega
      have e2 : s = a ++ [10] ++ r := by rw [h1]; simp
      rw [e2, split_at 10 [] a r h2] at hx
      rw [e2]
      rcases List.mem_cons.1 hx with rfl | hx
      · simp [hc]
      · simp [ih r hr x hx hc]
theorem lines_mem {c : UInt8} {s x : List UInt8} (hx : x ∈ linesF s) (hc : c ∈ x) : c ∈ s := by
  unfold linesF at hx
  obtain ⟨y, hy, rfl⟩ := List.mem_map.1 hx
  exact split_mem s.length s (Nat.le_refl _) y hy (cut_mem (mem_trimB hc))
theorem label_free {l : List UInt8} (h : 58 ∉ l) : labelF l = none := by
  unfold labelF
  rw [if_neg]
  rintro ⟨h1, -⟩
  exact h (List.mem_of_getLast? h1)
def Free (l : List (Nat × List UInt8)) : Prop := ∀ x ∈ l, labelF x.2 = none
theorem look_free (nm : List UInt8) : ∀ (l : List (Nat × List UInt8)) (a : Nat), Free l → lookN nm l a = none
  | [], a, _ => rfl
  | x :: r, a, h => by
    have h1 := h x (by simp)
    simp only [lookN, h1]
    exact look_free nm r _ (fun y hy => h y (by simp [hy]))
theorem asm_free {all : List (Nat × List UInt8)} (h : Free all) (s : List UInt8) (p : Nat) : asmN all s p = asmN [] s 0 := by
  unfold asmN
  cases aimF s with
  | none => rfl
  | some y =>
    obtain ⟨hd, nm⟩ := y
    simp only [look_free nm all 0 h]
    rfl
def goF : List (List UInt8) → Option (List UInt8)
  | [] => some []
  | s :: r => match asmN [] s 0 with
    | .inl _ => none
    | .inr w => match goF r with
      | some c => some (le4 w ++ c)
      | none => none
theorem goF_cons (s : List UInt8) (r : List (List UInt8)) : goF (s :: r) = match asmN [] s 0 with
    | .inl _ => none
    | .inr w => match goF r with
      | some c => some (le4 w ++ c)
      | none => none := rfl
theorem goF_app : ∀ (a b : List (List UInt8)), goF (a ++ b) = match goF a with
    | none => none
    | some x => match goF b with
      | none => none
      | some y => some (x ++ y)
  | [], b => by
    rw [List.nil_append]
    show goF b = match goF b with
      | none => none
      | some y => some ([] ++ y)
    cases goF b <;> rfl
  | s :: r, b => by
    rw [List.cons_append, goF_cons, goF_cons, goF_app r b]
    cases asmN [] s 0 with
    | inl e => rfl
    | inr w =>
      simp only []
      cases goF r with
      | none => rfl
      | some x =>
        simp only []
        cases goF b with
        | none => rfl
        | some y => simp only [List.append_assoc]
theorem goN_free {all : List (Nat × List UInt8)} (hf : Free all) : ∀ (l : List (Nat × List UInt8)) (code : List UInt8), Free l → (∀ c, goF (l.map (·.2)) = some c → goN all l code = (code ++ c, 0, 0)) ∧ (goF (l.map (·.2)) = none → ∃ n e, goN all l code = ([], n, e) ∧ e ≠ 0)
  | [], code, _ => ⟨fun c h => (by cases h; simp [goN]), fun h => (by cases h)⟩
  | x :: r, code, h => by
    have h1 := h x (by simp)
    have ih := fun code => goN_free hf r code (fun y hy => h y (by simp [hy]))
    rw [goN_ins _ _ h1, asm_free hf, List.map_cons, goF_cons]
    cases ha : asmN [] x.2 0 with
    | inl e => exact ⟨fun c hc => (by cases hc), fun _ => ⟨_, _, rfl, by rcases asm_err ha with q | q <;> omega⟩⟩
    | inr w =>
      simp only []
      obtain ⟨i1, i2⟩ := ih (code ++ le4 w)
      cases hg : goF (r.map (·.2)) with
      | none => exact ⟨fun c hc => (by cases hc), fun _ => i2 hg⟩
      | some c' =>
        refine ⟨fun c hc => ?_, fun hc => (by cases hc)⟩
        cases hc
        rw [i1 c' hg, List.append_assoc]
def saysF (L : List (List UInt8)) : List (List UInt8) := L.filter fun x => !(x == [])
theorem numbF_says : ∀ (L : List (List UInt8)) (i : Nat), (numbF i L).map (·.2) = saysF L
  | [], i => rfl
  | s :: r, i => by
    unfold numbF saysF
    by_cases h : s = []
    · subst h
      rw [if_pos rfl, numbF_says r (i + 1)]
      rfl
    · rw [if_neg h, List.map_cons, numbF_says r (i + 1), List.filter_cons_of_pos (by simpa using h)]
      rfl
theorem numbF_mem {L : List (List UInt8)} : ∀ {i : Nat} {x : Nat × List UInt8}, x ∈ numbF i L → x.2 ∈ L := by
  induction L with
  | nil => intro i x hx; simp [numbF] at hx
  | cons s r ih =>
    intro i x hx
    unfold numbF at hx
    split at hx
    · exact List.mem_cons_of_mem _ (ih hx)
    · rcases List.mem_cons.1 hx with rfl | hx
      · simp
      · exact List.mem_cons_of_mem _ (ih hx)
theorem lines_free {s : List UInt8} (h : 58 ∉ s) : Free (numbF 1 (linesF s)) := fun x hx => label_free fun hc => h (lines_mem (numbF_mem hx) hc)
theorem prog_free {s : List UInt8} (h : 58 ∉ s) (hl : s.length ≤ 4000) : (∀ c, goF (saysF (linesF s)) = some c → progX s = (c, 0, 0)) ∧ (goF (saysF (linesF s)) = none → ∃ n e, progX s = ([], n, e) ∧ e ≠ 0) := by
  have hf := lines_free h
  have := goN_free hf _ [] hf
  rw [numbF_says] at this
  unfold progX progF
  rw [if_neg (by omega)]
  exact this
/-- of two texts the codes, one behind the other; or an error -/
theorem prog_two {s t : List UInt8} (hs : 58 ∉ s) (ht : 58 ∉ t) (ls : s.length ≤ 700) (lt : t.length ≤ 700) :
    (∃ c d, progX s = (c, 0, 0) ∧ progX t = (d, 0, 0) ∧ progX (s ++ [10] ++ t) = (c ++ d, 0, 0)) ∨
    (∃ n e c m f d k g, progX s = (c, n, e) ∧ progX t = (d, m, f) ∧ progX (s ++ [10] ++ t) = ([], k, g) ∧ g ≠ 0 ∧ (e ≠ 0 ∨ f ≠ 0)) := by
  have hst : 58 ∉ s ++ [10] ++ t := by simp [hs, ht]
  obtain ⟨a1, a2⟩ := prog_free hs (by omega)
  obtain ⟨b1, b2⟩ := prog_free ht (by omega)
  obtain ⟨c1, c2⟩ := prog_free hst (by simp only [List.length_append, List.length_cons, List.length_nil]; omega)
  have e : saysF (linesF (s ++ [10] ++ t)) = saysF (linesF s) ++ saysF (linesF t) := by unfold saysF; rw [lines_two, List.filter_append]
  rw [e, goF_app] at c1 c2
  cases hx : goF (saysF (linesF s)) with
  | none =>
    rw [hx] at c2
    obtain ⟨n, e, p1, p2⟩ := a2 hx
    obtain ⟨k, g, q1, q2⟩ := c2 rfl
    obtain ⟨d, m, f⟩ : ∃ d m f, progX t = (d, m, f) := ⟨_, _, _, rfl⟩
    obtain ⟨f, hf⟩ := f
    exact .inr ⟨n, e, [], m, f, d, k, g, p1, hf, q1, q2, .inl p2⟩
  | some x =>
    cases hy : goF (saysF (linesF t)) with
    | none =>
      rw [hx, hy] at c2
      obtain ⟨m, f, p1, p2⟩ := b2 hy
      obtain ⟨k, g, q1, q2⟩ := c2 rfl
      exact .inr ⟨0, 0, x, m, f, [], k, g, a1 x hx, p1, q1, q2, .inr p2⟩
    | some y =>
      rw [hx, hy] at c1
      exact .inl ⟨x, y, a1 x hx, b1 y hy, c1 _ rfl⟩
end Go.Proofs.YtdpmihlmfephiaaGreatDoor
