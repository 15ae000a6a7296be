/- Blanks and remarks say nothing: plain mathematics. -/
import Derived.Test.YtdpmihlmfephiaaGreatDoorAe3
namespace Go.Proofs.YtdpmihlmfephiaaGreatDoor
set_option linter.unusedVariables false
set_option linter.unusedSimpArgs false
open Go

theorem trimR_one (u : List UInt8) : Lib.trimRightB (u ++ [32]) 32 = Lib.trimRightB u 32 := by
  unfold Lib.trimRightB
  rw [List.reverse_append, List.reverse_singleton, List.singleton_append, List.dropWhile_cons_of_pos (by decide)]
theorem trim_right (u : List UInt8) : Lib.trimB (u ++ [32, 32]) 32 = Lib.trimB u 32 := by
  unfold Lib.trimB
  rw [show u ++ [32, 32] = (u ++ [32]) ++ [32] by simp, trimR_one, trimR_one]
theorem trim_left (u : List UInt8) : Lib.trimB (32 :: u) 32 = Lib.trimB u 32 := by
  unfold Lib.trimB Lib.trimRightB
  rw [List.reverse_cons, List.dropWhile_append]
  split
  · rename_i h
    have h1 : u.reverse.dropWhile (fun x => x == 32) = [] := List.isEmpty_iff.1 h
    rw [h1]
    rfl
  · rw [List.reverse_append, List.reverse_singleton, List.singleton_append]
    unfold Lib.trimLeftB
    rw [List.dropWhile_cons_of_pos (by decide)]
theorem take_in {a z : List UInt8} (h : 59 ∈ a) : (a ++ z).takeWhile (fun x => x != 59) = a.takeWhile (fun x => x != 59) := by
  rcases take_split 59 a with ⟨h1, -⟩ | ⟨r, h1, h2⟩
  · exact absurd h h1
  · obtain ⟨t, ht⟩ : ∃ t, a.takeWhile (fun x => x != 59) = t := ⟨_, rfl⟩
    rw [ht] at h1 h2 ⊢
    rw [h1, List.append_assoc]
    rw [List.takeWhile_append_of_pos (fun c hc => by simpa using fun e : c = 59 => h2 (e ▸ hc))]
    simp
theorem take_out {a z : List UInt8} (h : 59 ∉ a) : (a ++ z).takeWhile (fun x => x != 59) = a ++ z.takeWhile (fun x => x != 59) :=
  List.takeWhile_append_of_pos (fun c hc => by simpa using fun e : c = 59 => h (e ▸ hc))
theorem clean_cut (l : List UInt8) : cleanF l = Lib.trimB (l.takeWhile (fun x => x != 59)) 32 := by unfold cleanF; rw [take_cut]
theorem clean_pad (a z : List UInt8) (hz : z = [] ∨ z = [32, 32, 59, 32, 97, 100, 100]) : cleanF ([32, 32] ++ a ++ z) = cleanF a := by
  rw [clean_cut, clean_cut]
  have e0 : ([32, 32] ++ a ++ z).takeWhile (fun x => x != 59) = 32 :: 32 :: (a ++ z).takeWhile (fun x => x != 59) := by simp
  rw [e0, trim_left, trim_left]
  by_cases h : 59 ∈ a
  · rw [take_in h]
  · have e1 : a.takeWhile (fun x => x != 59) = a := by have := take_out (z := []) h; simpa using this
    rw [take_out h, e1]
    rcases hz with rfl | rfl
    · simp
    · have e2 : ([32, 32, 59, 32, 97, 100, 100] : List UInt8).takeWhile (fun x => x != 59) = [32, 32] := by decide
      rw [e2, trim_right]
def remB : List UInt8 := [32, 32, 59, 32, 97, 100, 100, 10, 32, 32]
def blankB (c : UInt8) : List UInt8 := if c = 10 then remB else [c]
def blankT (s : List UInt8) : List UInt8 := [10, 32, 32] ++ s.flatMap blankB
theorem flat_no {a : List UInt8} (h : 10 ∉ a) : a.flatMap blankB = a := by
  induction a with
  | nil => rfl
  | cons c r ih =>
    have h1 : c ≠ 10 := fun e => h (by simp [e])
    rw [List.flatMap_cons, ih (fun q => h (by simp [q]))]
    unfold blankB
    rw [if_neg h1]; rfl
theorem lines_blank : ∀ (k : Nat) (s : List UInt8), s.length ≤ k → (Lib.split ([32, 32] ++ s.flatMap blankB) [10]).map cleanF = (Lib.split s [10]).map cleanF := by
  intro k
  induction k with
  | zero =>
    intro s h
    obtain rfl : s = [] := List.eq_nil_of_length_eq_zero (by omega)
    rw [show ([32, 32] : List UInt8) ++ [].flatMap blankB = [32, 32] from rfl, split_one 10 [] [32, 32] (by decide), split_one 10 [] [] (by simp)]
    have := clean_pad [] [] (Or.inl rfl)
    simpa using this
  | succ k ih =>
    intro s h
    rcases take_split 10 s with ⟨h1, -⟩ | ⟨r, h1, h2⟩
    · rw [flat_no h1, split_one 10 [] ([32, 32] ++ s) (by simp [h1]), split_one 10 [] s h1]
      have := clean_pad s [] (Or.inl rfl)
      simpa using this
    · obtain ⟨a, ha⟩ : ∃ a, s.takeWhile (fun x => x != 10) = a := ⟨_, rfl⟩
      rw [ha] at h1 h2
      have hr : r.length ≤ k := by rw [h1, List.length_append, List.length_cons] at h; omega
      have e2 : s = a ++ [10] ++ r := by rw [h1]; simp
      have e1 : [32, 32] ++ s.flatMap blankB = ([32, 32] ++ a ++ [32, 32, 59, 32, 97, 100, 100]) ++ [10] ++ ([32, 32] ++ r.flatMap blankB) := by
        rw [h1, List.flatMap_append, flat_no h2, List.flatMap_cons, show blankB 10 = remB from rfl]
        simp [remB]
      rw [e1, split_at 10 [] _ _ (by simp [h2]), List.map_cons, ih r hr, clean_pad a _ (Or.inr rfl)]
      conv => rhs; rw [e2, split_at 10 [] a r h2, List.map_cons]
theorem linesF_blank (s : List UInt8) : linesF (blankT s) = [] :: linesF s := by
  unfold linesF blankT
  have e : [10, 32, 32] ++ s.flatMap blankB = [] ++ [10] ++ ([32, 32] ++ s.flatMap blankB) := by simp
  rw [e, split_at 10 [] [] _ (by simp), List.map_cons, lines_blank s.length s (Nat.le_refl _)]
  rfl
/-! Numbers one below. -/
def shX (x : Nat × List UInt8) : Nat × List UInt8 := (x.1 + 1, x.2)
theorem numbF_sh : ∀ (L : List (List UInt8)) (i : Nat), numbF (i + 1) L = (numbF i L).map shX
  | [], i => rfl
  | s :: r, i => by
    unfold numbF
    rw [numbF_sh r (i + 1)]
    split
    · rfl
    · rfl
theorem lookN_sh (nm : List UInt8) : ∀ (l : List (Nat × List UInt8)) (a : Nat), lookN nm (l.map shX) a = (lookN nm l a).map fun y => (y.1 + 1, y.2)
  | [], a => rfl
  | x :: r, a => by
    rw [List.map_cons]
    have e : (shX x).2 = x.2 := rfl
    simp only [lookN, e]
    cases h : labelF x.2 with
    | none => simp only []; exact lookN_sh nm r _
    | some o =>
      simp only []
      split
      · rfl
      · exact lookN_sh nm r _
theorem asm_sh (all : List (Nat × List UInt8)) (s : List UInt8) (p : Nat) : asmN (all.map shX) s p = asmN all s p := by
  unfold asmN
  cases aimF s with
  | none => rfl
  | some y =>
    obtain ⟨hd, nm⟩ := y
    simp only [lookN_sh]
    cases lookN nm all 0 with
    | none => rfl
    | some z => rfl
theorem goN_sh (all : List (Nat × List UInt8)) : ∀ (l : List (Nat × List UInt8)) (code : List UInt8), (∀ c, goN all l code = (c, 0, 0) → goN (all.map shX) (l.map shX) code = (c, 0, 0)) ∧ (∀ n e, goN all l code = ([], n, e) → e ≠ 0 → goN (all.map shX) (l.map shX) code = ([], n + 1, e))
  | [], code => ⟨fun c h => h, fun n e h he => (by simp only [goN, Prod.mk.injEq] at h; exact absurd h.2.2.symm he)⟩
  | x :: r, code => by
    have e2 : (shX x).2 = x.2 := rfl
    have e1 : (shX x).1 = x.1 + 1 := rfl
    rw [List.map_cons]
    cases hl : labelF x.2 with
    | some o =>
      have hl' : labelF (shX x).2 = some o := by rw [e2]; exact hl
      rw [goN_lab _ _ hl, goN_lab _ _ hl', lookN_sh, e1]
      have hiff : (Option.map (fun z : Nat × Nat => z.1) (Option.map (fun y : Nat × Nat => (y.1 + 1, y.2)) (lookN o all 0)) = some (x.1 + 1)) ↔ ((lookN o all 0).map (·.1) = some x.1) := by
        cases lookN o all 0 with
        | none => simp
        | some z => simp
      by_cases hq : (lookN o all 0).map (·.1) = some x.1
      · rw [if_pos hq, if_pos (hiff.2 hq)]
        exact goN_sh all r code
      · rw [if_neg hq, if_neg (fun h => hq (hiff.1 h))]
        refine ⟨fun c h => ?_, fun n e h he => ?_⟩
        · have := congrArg (fun z => z.2.2) h
          have h51 : (51 : Int) = 0 := this
          exact absurd h51 (by decide)
        · cases h; rfl
    | none =>
      have hl' : labelF (shX x).2 = none := by rw [e2]; exact hl
      rw [goN_ins _ _ hl, goN_ins _ _ hl', asm_sh, e2, e1]
      cases ha : asmN all x.2 code.length with
      | inl e0 =>
        simp only []
        refine ⟨fun c h => ?_, fun n e h he => ?_⟩
        · have := congrArg (fun z => z.2.2) h
          have he : e0 = 0 := this
          rcases asm_err ha with q | q <;> omega
        · cases h; rfl
      | inr w =>
        simp only []
        exact goN_sh all r _
theorem goN_which {all : List (Nat × List UInt8)} : ∀ (l : List (Nat × List UInt8)) (code c : List UInt8) (n : Nat) (e : Int), goN all l code = (c, n, e) → e ≠ 0 → e = 50 ∨ e = 51
  | [], code, c, n, e, h, he => by simp only [goN, Prod.mk.injEq] at h; exact absurd h.2.2.symm he
  | x :: r, code, c, n, e, h, he => by
    cases hl : labelF x.2 with
    | some o =>
      rw [goN_lab _ _ hl] at h
      split at h
      · exact goN_which r code c n e h he
      · cases h; exact .inr rfl
    | none =>
      rw [goN_ins _ _ hl] at h
      cases ha : asmN all x.2 code.length with
      | inl e0 => rw [ha] at h; cases h; exact asm_err ha
      | inr w => rw [ha] at h; exact goN_which r _ c n e h he
theorem prog_blank (s : List UInt8) (hs : s.length ≤ 800) (hb : (blankT s).length ≤ 4000) :
    (∃ c, progX s = (c, 0, 0) ∧ progX (blankT s) = (c, 0, 0)) ∨ ∃ n e, progX s = ([], n, e) ∧ progX (blankT s) = ([], n + 1, e) ∧ e ≠ 0 ∧ e ≠ 2 := by
  have h1 : progX s = goN (numbF 1 (linesF s)) (numbF 1 (linesF s)) [] := by unfold progX progF; rw [if_neg (by omega)]
  have h2 : progX (blankT s) = goN ((numbF 1 (linesF s)).map shX) ((numbF 1 (linesF s)).map shX) [] := by
    unfold progX progF
    rw [if_neg (by omega), linesF_blank, show numbF 1 ([] :: linesF s) = numbF 2 (linesF s) from if_pos rfl, numbF_sh]
  obtain ⟨g1, g2⟩ := goN_sh (numbF 1 (linesF s)) (numbF 1 (linesF s)) []
  rcases goN_cases (all := numbF 1 (linesF s)) (numbF 1 (linesF s)) [] with ⟨c, hc⟩ | ⟨n, e, hc, he⟩
  · exact .inl ⟨c, h1.trans hc, h2.trans (g1 c hc)⟩
  · exact .inr ⟨n, e, h1.trans hc, h2.trans (g2 n e hc he), he, by rcases goN_which _ _ _ _ _ hc he with q | q <;> omega⟩
theorem blank_len (s : List UInt8) : (s.flatMap blankB).length ≤ 10 * s.length := by
  induction s with
  | nil => simp
  | cons c r ih =>
    rw [List.flatMap_cons, List.length_append, List.length_cons]
    have : (blankB c).length ≤ 10 := by unfold blankB; split <;> simp [remB]
    omega
theorem blank_snoc (s : List UInt8) (k : Nat) (h : k < s.length) : (s.take (k + 1)).flatMap blankB = (s.take k).flatMap blankB ++ blankB s[k] := by
  rw [List.take_succ_eq_append_getElem h, List.flatMap_append, List.flatMap_cons, List.flatMap_nil, List.append_nil]
end Go.Proofs.YtdpmihlmfephiaaGreatDoor
