/- The document's way to read an instruction: the numbers of a text, in their order. Plain mathematics. -/
import Derived.Test.YtdpmihlmfephiaaGreatDoorAsB
namespace Go.Proofs.YtdpmihlmfephiaaGreatDoor
set_option linter.unusedVariables false
set_option linter.unusedSimpArgs false
open Go

def sgnD (p : UInt8) (a : Nat) : Int := if p == 45 then -(a : Int) else (a : Int)
/-- all runs of digits of a text: p stands ahead; (k, a): k digits were read, that say a -/
def numsG (p : UInt8) : Option (Nat × Nat) → List UInt8 → List Int
  | none, [] => []
  | some (_, a), [] => [sgnD p a]
  | none, c :: r => if isDg c = true then numsG p (some (1, c.toNat - 48)) r else numsG c none r
  | some (k, a), c :: r => if isDg c = true then numsG p (some (k + 1, if k < 12 then 10 * a + (c.toNat - 48) else a)) r else sgnD p a :: numsG c none r
def endD (r : List UInt8) : Prop := ∀ c ∈ r.head?, isDg c = false
theorem nums_skip (p c : UInt8) (r : List UInt8) (h : isDg c = false) : numsG p none (c :: r) = numsG c none r := by simp [numsG, h]
theorem nums_end (p : UInt8) (k a : Nat) (r : List UInt8) (h : endD r) : numsG p (some (k, a)) r = sgnD p a :: numsG 0 none r := by
  cases r with
  | nil => rfl
  | cons c r =>
    have hc := h c (by simp)
    simp [numsG, hc]
theorem digits_le (k u : Nat) (h : u < 10 ^ (k + 1)) : Lib.nDigits u ≤ k + 1 := by
  induction k generalizing u with
  | zero => rw [Lib.nDigits_small (by simpa using h)]; exact Nat.le_refl _
  | succ k ih =>
    by_cases hu : u < 10
    · rw [Lib.nDigits_small hu]; omega
    · rw [Lib.nDigits_big hu]
      have := ih (u / 10) (by rw [Nat.pow_succ] at h; omega)
      omega
theorem nums_dec (p : UInt8) (u : Nat) : ∀ r, Lib.nDigits u ≤ 12 → numsG p none (Lib.decDigits u ++ r) = numsG p (some (Lib.nDigits u, u)) r := by
  induction u using Nat.strongRecOn with
  | _ u ih =>
    intro r hd
    by_cases h : u < 10
    · have hg : isDg (UInt8.ofNat (48 + u)) = true := by unfold isDg; rw [dg_ofNat u h]; simp; omega
      rw [Lib.decDigits_one h, Lib.nDigits_small h]
      simp only [List.cons_append, List.nil_append, numsG, hg, if_true]
      rw [dg_ofNat u h]
      congr 3; omega
    · have hm := Nat.mod_lt u (show 0 < 10 by decide)
      have hg : isDg (UInt8.ofNat (48 + u % 10)) = true := by unfold isDg; rw [dg_ofNat _ hm]; simp; omega
      rw [Lib.nDigits_big h] at hd ⊢
      rw [dec_step u h, List.append_assoc, ih (u / 10) (by omega) _ (by omega)]
      simp only [List.cons_append, List.nil_append, numsG, hg, if_true]
      rw [dg_ofNat _ hm, if_pos (by omega)]
      congr 3; omega
theorem nums_itoa (p : UInt8) (n : Int) (r : List UInt8) (hp : p ≠ 45) (h0 : -4294967296 < n) (h1 : n < 4294967296) (hr : endD r) : numsG p none (Lib.itoa n ++ r) = n :: numsG 0 none r := by
  rcases itoa_cases n with ⟨u, e, h⟩ | ⟨u, hu, e, h⟩ <;> rw [h]
  · rw [nums_dec p u r (digits_le 11 u (by rw [show 10 ^ (11 + 1) = 1000000000000 by decide]; omega)), nums_end _ _ _ _ hr]
    unfold sgnD
    rw [if_neg (by simpa using hp), e]
  · rw [List.cons_append, nums_skip _ _ _ (by decide), nums_dec 45 u r (digits_le 11 u (by rw [show 10 ^ (11 + 1) = 1000000000000 by decide]; omega)), nums_end _ _ _ _ hr]
    unfold sgnD
    rw [if_pos (by decide), e]
theorem nums_reg (p : UInt8) (k : Int) (r : List UInt8) (h : 0 ≤ k ∧ k < 32) (hr : endD r) : numsG p none (regT k ++ r) = k :: numsG 0 none r := by
  unfold regT
  rw [List.cons_append, nums_skip _ _ _ (by decide), nums_itoa 99 k r (by decide) (by omega) (by omega) hr]
theorem nums_place (p : UInt8) (n k : Int) (r : List UInt8) (hp : p ≠ 45) (h0 : -4294967296 < n) (h1 : n < 4294967296) (h : 0 ≤ k ∧ k < 32) (hr : endD r) : numsG p none (placeT n k ++ r) = n :: k :: numsG 0 none r := by
  unfold placeT
  rw [List.append_assoc, nums_itoa p n _ hp h0 h1 (by intro c hc; simp at hc; subst hc; decide), List.cons_append, nums_skip _ _ _ (by decide), List.append_assoc, nums_reg _ k _ h (by intro c hc; simp at hc; subst hc; decide), List.cons_append, List.nil_append, nums_skip _ _ _ (by decide)]
  congr 2
  cases r with
  | nil => rfl
  | cons c r => rw [nums_skip _ c r (hr c (by simp)), nums_skip _ c r (hr c (by simp))]
theorem nums_nil (p : UInt8) : numsG p none [] = [] := rfl
theorem nums_sep (p : UInt8) (r : List UInt8) : numsG p none (44 :: 32 :: r) = numsG 32 none r := by rw [nums_skip _ _ _ (by decide), nums_skip _ _ _ (by decide)]
/-- the numbers of an instruction's text, in their order -/
def numsI (k : Int) (x : Ins) : List Int :=
  if (k == 1) = true then [x.rd, x.rs1, x.rs2]
  else if (k == 2) = true then [x.rd, x.rs1, x.n]
  else if (k == 3) = true then [x.rd, x.n, x.rs1]
  else if (k == 4) = true then [x.rs2, x.n, x.rs1]
  else if (k == 5) = true then [x.rs1, x.rs2, x.n]
  else if (k == 6) = true then [x.rd, x.n]
  else if (k == 7) = true then [x.rd, x.n]
  else if (k == 8) = true then [x.rd, x.rs1]
  else if (k == 10) = true then [x.rs1, x.rs2] else []
theorem end_nil : endD [] := by intro c hc; simp at hc
theorem end_sep (r : List UInt8) : endD (44 :: r) := by intro c hc; simp at hc; subst hc; decide
theorem nums_text (k s : Int) (x : Ins) (hr : regsB k x.rd x.rs1 x.rs2 = true) (hi : immB k s x.n = true) (hk : kindsA k) : numsG 0 none (tailT (opdF k x.rd x.rs1 x.rs2 x.n)) = numsI k x := by
  obtain ⟨f1, f2, f3⟩ := regsB_fit hr
  obtain ⟨a1, a2, -⟩ := fitB_in f1
  obtain ⟨b1, b2, -⟩ := fitB_in f2
  obtain ⟨c1, c2, -⟩ := fitB_in f3
  obtain ⟨i1, i2⟩ := immB_in hi
  have R1 := fun p r (h : endD r) => nums_reg p x.rd r ⟨a1, a2⟩ h
  have R2 := fun p r (h : endD r) => nums_reg p x.rs1 r ⟨b1, b2⟩ h
  have R3 := fun p r (h : endD r) => nums_reg p x.rs2 r ⟨c1, c2⟩ h
  have RN := fun r (h : endD r) => nums_itoa 32 x.n r (by decide) (by omega) (by omega) h
  have RP := fun r (h : endD r) => nums_place 32 x.n x.rs1 r (by decide) (by omega) (by omega) ⟨b1, b2⟩ h
  have J3 : ∀ a b c : List UInt8, Lib.join [a, b, c] sepT = a ++ 44 :: 32 :: (b ++ 44 :: 32 :: (c ++ [])) := by intro a b c; rw [Lib.join_cons]; simp [Lib.joinTail, sepT]
  have J2 : ∀ a b : List UInt8, Lib.join [a, b] sepT = a ++ 44 :: 32 :: (b ++ []) := by intro a b; rw [Lib.join_cons]; simp [Lib.joinTail, sepT]
  rcases hk with rfl | rfl | rfl | rfl | rfl | rfl | rfl | rfl | rfl | rfl
  · simp only [show opdF 1 x.rd x.rs1 x.rs2 x.n = [regT x.rd, regT x.rs1, regT x.rs2] from rfl]
    unfold tailT
    rw [if_neg (by simp), J3, nums_skip _ _ _ (by decide), R1 _ _ (end_sep _), nums_sep, R2 _ _ (end_sep _), nums_sep, R3 _ _ end_nil]; rfl
  · simp only [show opdF 2 x.rd x.rs1 x.rs2 x.n = [regT x.rd, regT x.rs1, Lib.itoa x.n] from rfl]
    unfold tailT
    rw [if_neg (by simp), J3, nums_skip _ _ _ (by decide), R1 _ _ (end_sep _), nums_sep, R2 _ _ (end_sep _), nums_sep, RN _ end_nil]; rfl
  · simp only [show opdF 3 x.rd x.rs1 x.rs2 x.n = [regT x.rd, placeT x.n x.rs1] from rfl]
    unfold tailT
    rw [if_neg (by simp), J2, nums_skip _ _ _ (by decide), R1 _ _ (end_sep _), nums_sep, RP _ end_nil]; rfl
  · simp only [show opdF 4 x.rd x.rs1 x.rs2 x.n = [regT x.rs2, placeT x.n x.rs1] from rfl]
    unfold tailT
    rw [if_neg (by simp), J2, nums_skip _ _ _ (by decide), R3 _ _ (end_sep _), nums_sep, RP _ end_nil]; rfl
  · simp only [show opdF 5 x.rd x.rs1 x.rs2 x.n = [regT x.rs1, regT x.rs2, Lib.itoa x.n] from rfl]
    unfold tailT
    rw [if_neg (by simp), J3, nums_skip _ _ _ (by decide), R2 _ _ (end_sep _), nums_sep, R3 _ _ (end_sep _), nums_sep, RN _ end_nil]; rfl
  · simp only [show opdF 6 x.rd x.rs1 x.rs2 x.n = [regT x.rd, Lib.itoa x.n] from rfl]
    unfold tailT
    rw [if_neg (by simp), J2, nums_skip _ _ _ (by decide), R1 _ _ (end_sep _), nums_sep, RN _ end_nil]; rfl
  · simp only [show opdF 7 x.rd x.rs1 x.rs2 x.n = [regT x.rd, Lib.itoa x.n] from rfl]
    unfold tailT
    rw [if_neg (by simp), J2, nums_skip _ _ _ (by decide), R1 _ _ (end_sep _), nums_sep, RN _ end_nil]; rfl
  · simp only [show opdF 8 x.rd x.rs1 x.rs2 x.n = [regT x.rd, regT x.rs1] from rfl]
    unfold tailT
    rw [if_neg (by simp), J2, nums_skip _ _ _ (by decide), R1 _ _ (end_sep _), nums_sep, R2 _ _ end_nil]; rfl
  · rfl
  · simp only [show opdF 10 x.rd x.rs1 x.rs2 x.n = [regT x.rs1, regT x.rs2] from rfl]
    unfold tailT
    rw [if_neg (by simp), J2, nums_skip _ _ _ (by decide), R2 _ _ (end_sep _), nums_sep, R3 _ _ end_nil]; rfl
/-- an operation's instruction of numbers, in the document's words -/
def fillD (k : Int) (l : List Int) : Ins :=
  let a := l.getD 0 0
  let b := l.getD 1 0
  let c := l.getD 2 0
  if (k == 1) = true then ⟨a, b, c, 0⟩
  else if (k == 2) = true then ⟨a, b, 0, c⟩
  else if (k == 3) = true then ⟨a, c, 0, b⟩
  else if (k == 4) = true then ⟨0, c, a, b⟩
  else if (k == 5) = true then ⟨0, a, b, c⟩
  else if (k == 6) = true then ⟨a, 0, 0, b⟩
  else if (k == 7) = true then ⟨a, 0, 0, b⟩
  else if (k == 8) = true then ⟨a, b, 0, 0⟩
  else if (k == 10) = true then ⟨0, a, b, 0⟩ else ⟨0, 0, 0, 0⟩
theorem fillD_nums (k s : Int) (x : Ins) (hr : regsB k x.rd x.rs1 x.rs2 = true) (hi : immB k s x.n = true) (hk : kindsA k) : fillD k ((numsI k x).take 4) = x := by
  obtain ⟨f1, f2, f3⟩ := regsB_fit hr
  obtain ⟨-, -, a3⟩ := fitB_in f1
  obtain ⟨-, -, b3⟩ := fitB_in f2
  obtain ⟨-, -, c3⟩ := fitB_in f3
  have h0 := fun h => immB_zero hi h
  obtain ⟨rd, rs1, rs2, n⟩ := x
  simp only at a3 b3 c3 h0
  rcases hk with rfl | rfl | rfl | rfl | rfl | rfl | rfl | rfl | rfl | rfl
  · rw [h0 (by simp)]; rfl
  · rw [c3 (by decide)]; rfl
  · rw [c3 (by decide)]; rfl
  · rw [a3 (by decide)]; rfl
  · rw [a3 (by decide)]; rfl
  · rw [b3 (by decide), c3 (by decide)]; rfl
  · rw [b3 (by decide), c3 (by decide)]; rfl
  · rw [h0 (by simp), c3 (by decide)]; rfl
  · rw [h0 (by simp), a3 (by decide), b3 (by decide), c3 (by decide)]; rfl
  · rw [h0 (by simp), a3 (by decide)]; rfl
/-- what stands ahead of the first byte 32 -/
def firstF (s : List UInt8) : List UInt8 := s.takeWhile (· != 32)
theorem take_split (c : UInt8) : ∀ s : List UInt8, (c ∉ s ∧ s.takeWhile (· != c) = s) ∨ ∃ r, s = s.takeWhile (· != c) ++ c :: r ∧ c ∉ s.takeWhile (· != c)
  | [] => .inl ⟨by simp, rfl⟩
  | b :: l => by
    by_cases h : b = c
    · subst h
      exact .inr ⟨l, by simp, by simp⟩
    · have hb : (b != c) = true := by simpa using h
      have e0 : (b :: l).takeWhile (fun x => x != c) = b :: l.takeWhile (fun x => x != c) := List.takeWhile_cons_of_pos hb
      rw [e0]
      rcases take_split c l with ⟨h1, h2⟩ | ⟨r, h1, h2⟩
      · refine .inl ⟨by simp; exact ⟨fun e => h e.symm, h1⟩, by rw [h2]⟩
      · refine .inr ⟨r, by rw [List.cons_append, ← h1], by simp only [List.mem_cons]; rintro (e | e); exact h e.symm; exact h2 e⟩
theorem take_cut (c : UInt8) (s : List UInt8) : s.takeWhile (· != c) = (Lib.cut s [c]).1 := by
  rcases take_split c s with ⟨h1, h2⟩ | ⟨r, h1, h2⟩
  · rw [h2, cut_no c s h1]
  · generalize hx : s.takeWhile (· != c) = x at h1 h2
    rw [h1, cut_at c x r h2]
theorem first_cut (s : List UInt8) : firstF s = (Lib.cut s [32]).1 := take_cut 32 s
def exD (s : List UInt8) : Int × Ins := ((findF (firstF s) : Nat), fillD (kindA (findF (firstF s) : Nat)) ((numsG 0 none (s.drop (firstF s).length)).take 4))
/-- the document's instruction of a text -/
def parD (s : List UInt8) : Option (Int × Ins) := if findF (firstF s) ≠ 0 ∧ okI (exD s).1 (exD s).2 = true ∧ textF (exD s).1 (exD s).2.rd (exD s).2.rs1 (exD s).2.rs2 (exD s).2.n = s then some (exD s) else none
theorem exD_text (op : Int) (x : Ins) (h : okI op x = true) : exD (textF op x.rd x.rs1 x.rs2 x.n) = (op, x) := by
  obtain ⟨h1, h2, h3, h4⟩ := okI_parts h
  obtain ⟨e1, e2⟩ := cut_text op x.rd x.rs1 x.rs2 x.n h1 h2
  have hk : kindA op = kindZ (bareN op) := if_pos ⟨h1, h2⟩
  unfold exD
  rw [first_cut, e1, findF_name op h1 h2]
  have hd : (textF op x.rd x.rs1 x.rs2 x.n).drop (opN op).length = tailT (opdF (kindZ (bareN op)) x.rd x.rs1 x.rs2 x.n) := by unfold textF; rw [hk, List.drop_left]
  rw [hd, hk, nums_text _ _ x h3 h4 (kinds_op op h1 h2), fillD_nums _ _ x h3 h4 (kinds_op op h1 h2)]
theorem parD_eq (s : List UInt8) : parD s = parF s := by
  cases h : parF s with
  | some y =>
    obtain ⟨op, x⟩ := y
    obtain ⟨h1, rfl⟩ := (parF_iff _ _ _).1 h
    obtain ⟨g1, g2, -⟩ := okI_parts h1
    have e := exD_text op x h1
    unfold parD
    have hf : findF (firstF (textF op x.rd x.rs1 x.rs2 x.n)) ≠ 0 := by
      have := congrArg Prod.fst e
      unfold exD at this
      simp only at this
      omega
    rw [e, if_pos ⟨hf, h1, rfl⟩]
  | none =>
    unfold parD
    rw [if_neg]
    rintro ⟨h0, h1, h2⟩
    have := (parF_iff s (exD s).1 (exD s).2).2 ⟨h1, h2⟩
    rw [h] at this
    cases this
end Go.Proofs.YtdpmihlmfephiaaGreatDoor
