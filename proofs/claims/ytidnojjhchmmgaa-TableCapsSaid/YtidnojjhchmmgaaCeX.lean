/- What is read of more bytes, and of fewer: plain mathematics. -/
import Derived.Test.YtidnojjhchmmgaaCeP
namespace Go.Proofs.Ytidnojjhchmmgaa
set_option linter.unusedVariables false
set_option linter.unusedSimpArgs false

/-- a reader that stays where something is wrong; of more bytes it reads the same; of fewer it reads the same, or tells that they end -/
structure Good {α : Type} (one : St → α × St) : Prop where
  stay : ∀ s, s.wrong ≠ 0 → (one s).2 = s
  ext : ∀ p t, (one ⟨p, 0⟩).2.wrong = 0 → one ⟨p ++ t, 0⟩ = ((one ⟨p, 0⟩).1, ⟨(one ⟨p, 0⟩).2.rest ++ t, 0⟩)
  cut : ∀ p t, (one ⟨p ++ t, 0⟩).2.wrong = 0 → (one ⟨p, 0⟩).2.wrong = 0 ∨ (one ⟨p, 0⟩).2.wrong = 101
theorem good_take (n : Nat) : Good (takeP n) := by
  refine ⟨fun s h => ?_, fun p t h => ?_, fun p t h => ?_⟩
  · unfold takeP; rw [if_neg h]
  · unfold takeP at h ⊢
    simp only [if_true] at h ⊢
    by_cases hl : p.length < n
    · rw [if_pos hl] at h; cases h
    · rw [if_neg hl] at ⊢
      rw [if_neg (by rw [List.length_append]; omega)]
      rw [List.take_append_of_le_length (by omega), List.drop_append_of_le_length (by omega)]
  · unfold takeP
    simp only [if_true]
    by_cases hl : p.length < n
    · rw [if_pos hl]; exact Or.inr rfl
    · rw [if_neg hl]; exact Or.inl rfl
def bindP {α β γ : Type} (A : St → α × St) (B : α → St → β × St) (f : α → β → γ) (s : St) : γ × St := (f (A s).1 (B (A s).1 (A s).2).1, (B (A s).1 (A s).2).2)
theorem st_eta (s : St) (h : s.wrong = 0) : s = ⟨s.rest, 0⟩ := by cases s; cases h; rfl
theorem good_bind {α β γ : Type} {A : St → α × St} {B : α → St → β × St} {f : α → β → γ} (hA : Good A) (hB : ∀ a, Good (B a)) : Good (bindP A B f) := by
  refine ⟨fun s h => ?_, fun p t h => ?_, fun p t h => ?_⟩
  · show (B (A s).1 (A s).2).2 = s
    rw [hA.stay s h]
    exact (hB _).stay s h
  · have h0 : (A ⟨p, 0⟩).2.wrong = 0 := by
      refine Decidable.byContradiction fun hn => ?_
      have h1 : (B (A ⟨p, 0⟩).1 (A ⟨p, 0⟩).2).2.wrong = 0 := h
      rw [(hB _).stay _ hn] at h1
      exact hn h1
    have e1 := hA.ext p t h0
    have e2 := st_eta _ h0
    have h1 : (B (A ⟨p, 0⟩).1 ⟨(A ⟨p, 0⟩).2.rest, 0⟩).2.wrong = 0 := by rw [← e2]; exact h
    have e3 := (hB (A ⟨p, 0⟩).1).ext _ t h1
    unfold bindP
    rw [e1]
    simp only []
    rw [e3, ← e2]
  · have h0 : (A ⟨p ++ t, 0⟩).2.wrong = 0 := by
      refine Decidable.byContradiction fun hn => ?_
      have h1 : (B (A ⟨p ++ t, 0⟩).1 (A ⟨p ++ t, 0⟩).2).2.wrong = 0 := h
      rw [(hB _).stay _ hn] at h1
      exact hn h1
    rcases hA.cut p t h0 with h2 | h2
    · have e1 := hA.ext p t h2
      have e2 := st_eta _ h2
      have h3 : (B (A ⟨p ++ t, 0⟩).1 (A ⟨p ++ t, 0⟩).2).2.wrong = 0 := h
      rw [e1] at h3
      have h4 := (hB (A ⟨p, 0⟩).1).cut _ t h3
      rw [← e2] at h4
      exact h4
    · right
      show (B (A ⟨p, 0⟩).1 (A ⟨p, 0⟩).2).2.wrong = 101
      rw [(hB _).stay _ (by rw [h2]; decide)]
      exact h2
theorem good_congr {α : Type} {one two : St → α × St} (h : Good two) (hs : ∀ s, s.wrong ≠ 0 → (one s).2 = s) (he : ∀ p, one ⟨p, 0⟩ = two ⟨p, 0⟩) : Good one :=
  ⟨hs, fun p t h0 => by rw [he] at h0 ⊢; rw [he]; exact h.ext p t h0, fun p t h0 => by rw [he] at h0 ⊢; exact h.cut p t h0⟩
theorem good_pure {α : Type} (x : α) : Good (fun s => (x, s)) := ⟨fun _ _ => rfl, fun _ _ _ => rfl, fun _ _ _ => Or.inl rfl⟩
theorem good_num (n : Nat) : Good (numP n) := good_bind (A := takeP n) (B := fun l s => ((), s)) (f := fun l _ => ofB (nats l)) (good_take n) (fun _ => good_pure ())
theorem good_text : Good textP := good_bind (A := numP 1) (B := fun n => takeP n) (f := fun _ y => y) (good_num 1) (fun n => good_take n)
theorem good_list {α : Type} {one : St → α × St} (h : Good one) (n : Nat) : Good (listP one n) := by
  induction n with
  | zero => exact good_pure []
  | succ n ih =>
    refine good_congr (good_bind (A := one) (B := fun _ => listP one n) (f := List.cons) h (fun _ => ih)) (fun s hs => ?_) (fun p => ?_)
    · rw [listP_wrong one (n + 1) s hs]
    · show (if (0 : Int) = 0 then _ else _) = _
      rw [if_pos rfl]
      rfl
theorem good_listH {α : Type} {one : St → α × St} (h : Good one) : Good (listH one) := good_bind (A := numP 2) (B := fun n => listP one n) (f := fun _ y => y) (good_num 2) (fun n => good_list h n)
theorem good_half : Good halfP := good_bind (A := numP 2) (B := fun l s => ((), s)) (f := fun n _ => (n : Int)) (good_num 2) (fun _ => good_pure ())
theorem good_rel : Good relP := good_bind (A := numP 4) (B := fun _ => numP 2) (f := fun x y => Rel.mk (x : Int) (y : Int)) (good_num 4) (fun _ => good_num 2)
theorem good_seg : Good segP :=
  good_bind (A := numP 4) (B := fun _ => bindP (numP 4) (fun _ => bindP (numP 1) (fun _ => bindP (numP 4) (fun d => takeP d) (fun _ y => y)) (fun c e => (c, e))) (fun b ce => (b, ce))) (f := fun a bce => ((a : Int), (bce.1 : Int), (bce.2.1 : Int), bce.2.2))
    (good_num 4) (fun _ => good_bind (good_num 4) (fun _ => good_bind (good_num 1) (fun _ => good_bind (good_num 4) (fun d => good_take d))))
def endS (d : Nat) (s : St) : Nat × St := (d, if s.wrong = 0 ∧ 1 < d then ⟨s.rest, 106⟩ else s)
theorem good_end (d : Nat) : Good (endS d) := by
  refine ⟨fun s h => ?_, fun p t h => ?_, fun p t h => ?_⟩
  · show (if s.wrong = 0 ∧ 1 < d then _ else s) = s
    rw [if_neg (fun q => h q.1)]
  · by_cases hd : 1 < d
    · have : (endS d ⟨p, 0⟩).2.wrong = 106 := by unfold endS; rw [if_pos ⟨rfl, hd⟩]
      rw [this] at h; cases h
    · unfold endS
      rw [if_neg (fun q => hd q.2), if_neg (fun q => hd q.2)]
  · by_cases hd : 1 < d
    · have : (endS d ⟨p ++ t, 0⟩).2.wrong = 106 := by unfold endS; rw [if_pos ⟨rfl, hd⟩]
      rw [this] at h; cases h
    · left
      unfold endS
      rw [if_neg (fun q => hd q.2)]
theorem good_sym : Good symP :=
  good_bind (A := textP) (B := fun _ => bindP textP (fun _ => bindP (numP 4) (fun _ => bindP (numP 4) (fun _ => bindP (numP 1) (fun _ => bindP (numP 1) (fun _ => bindP (numP 1) (fun _ => bindP (numP 1) (fun d => endS d) (fun _ y => y)) Prod.mk) Prod.mk) Prod.mk) Prod.mk) Prod.mk) Prod.mk)
    (f := fun n r => Sym.mk n r.1 (r.2.1 : Int) (r.2.2.1 : Int) (r.2.2.2.1 : Int) (r.2.2.2.2.1 : Int) (r.2.2.2.2.2.1 : Int) (decide ((r.2.2.2.2.2.2 : Int) = 1)))
    good_text (fun _ => good_bind good_text (fun _ => good_bind (good_num 4) (fun _ => good_bind (good_num 4) (fun _ => good_bind (good_num 1) (fun _ => good_bind (good_num 1) (fun _ => good_bind (good_num 1) (fun _ => good_bind (good_num 1) (fun d => good_end d))))))))
attribute [local irreducible] textP listH segP symP relP halfP numP takeP
def tail6 (s : St) : (List Int × List Int) × St := bindP (listH halfP) (fun _ => listH halfP) Prod.mk s
def tail5 (s : St) : (List Rel × List Int × List Int) × St := bindP (listH relP) (fun _ => tail6) Prod.mk s
def tail4 (s : St) : (List Sym × List Rel × List Int × List Int) × St := bindP (listH symP) (fun _ => tail5) Prod.mk s
def tail3 (s : St) : (List (Int × Int × Int × List UInt8) × List Sym × List Rel × List Int × List Int) × St := bindP (listH segP) (fun _ => tail4) Prod.mk s
def tail2 (s : St) : (List (List UInt8) × List (Int × Int × Int × List UInt8) × List Sym × List Rel × List Int × List Int) × St := bindP (listH textP) (fun _ => tail3) Prod.mk s
def tail1 (s : St) : (List UInt8 × List (List UInt8) × List (Int × Int × Int × List UInt8) × List Sym × List Rel × List Int × List Int) × St := bindP textP (fun _ => tail2) Prod.mk s
def mkC (r : List UInt8 × List (List UInt8) × List (Int × Int × Int × List UInt8) × List Sym × List Rel × List Int × List Int) : Core := ⟨r.1, r.2.1, r.2.2.1, r.2.2.2.1, r.2.2.2.2.1, r.2.2.2.2.2.1, r.2.2.2.2.2.2⟩
def tailP (s : St) : Core × St := bindP (takeP 5) (fun _ => tail1) (fun _ r => mkC r) s
theorem good_tail6 : Good tail6 := good_bind (good_listH good_half) (fun _ => good_listH good_half)
theorem good_tail5 : Good tail5 := good_bind (good_listH good_rel) (fun _ => good_tail6)
theorem good_tail4 : Good tail4 := good_bind (good_listH good_sym) (fun _ => good_tail5)
theorem good_tail3 : Good tail3 := good_bind (good_listH good_seg) (fun _ => good_tail4)
theorem good_tail2 : Good tail2 := good_bind (good_listH good_text) (fun _ => good_tail3)
theorem good_tail1 : Good tail1 := good_bind good_text (fun _ => good_tail2)
theorem good_tail : Good tailP := good_bind (f := fun _ r => mkC r) (good_take 5) (fun _ => good_tail1)
theorem obj_tail (s : St) : objP s = tailP (magicP s) := by
  unfold objP tailP tail1 mkC tail2 tail3 tail4 tail5 tail6 bindP
  simp only []
attribute [local irreducible] tailP
theorem wrong_zero {r : Core × St} (hw : wrongP r = 0) : r.2.wrong = 0 ∧ r.2.rest = [] := by
  unfold wrongP at hw
  by_cases hp : r.2.wrong = 0 ∧ 0 < r.2.rest.length
  · rw [if_pos hp] at hw; exact absurd hw (by decide)
  · rw [if_neg hp] at hw
    exact ⟨hw, List.eq_nil_of_length_eq_zero (by
      have : ¬ 0 < r.2.rest.length := fun q => hp ⟨hw, q⟩
      omega)⟩
/-- what is parsed has the bytes that it begins with, and was read to its end -/
theorem parse_ok {b : List UInt8} (h : (parseF b).2 = 0) : (b.take 5 == magicL) = true ∧ (tailP ⟨b, 0⟩).2.wrong = 0 ∧ (tailP ⟨b, 0⟩).2.rest = [] ∧ checkC (tailP ⟨b, 0⟩).1 = 0 ∧ (parseF b).1 = (tailP ⟨b, 0⟩).1 := by
  have hm : (b.take 5 == magicL) = true := by
    refine Decidable.byContradiction fun hn => ?_
    have e : magicP ⟨b, 0⟩ = ⟨b, 100⟩ := by unfold magicP; rw [if_neg hn]
    have e2 : (tailP ⟨b, 100⟩).2 = ⟨b, 100⟩ := good_tail.stay _ (show (100 : Int) ≠ 0 by decide)
    have hw : wrongP (objP ⟨b, 0⟩) = 100 := by
      unfold wrongP
      rw [obj_tail, e, e2]
      rw [if_neg (fun q => absurd q.1 (show ¬ (100 : Int) = 0 by decide))]
    unfold parseF parseR at h
    rw [hw] at h
    rw [if_neg (by decide)] at h
    exact absurd h (by decide)
  have e : objP ⟨b, 0⟩ = tailP ⟨b, 0⟩ := by rw [obj_tail]; unfold magicP; rw [if_pos hm]
  have hw : wrongP (tailP ⟨b, 0⟩) = 0 := by
    refine Decidable.byContradiction fun hn => ?_
    unfold parseF parseR at h
    rw [e, if_neg hn] at h
    exact hn h
  have h12 : (tailP ⟨b, 0⟩).2.wrong = 0 ∧ (tailP ⟨b, 0⟩).2.rest = [] := wrong_zero hw
  have h1 := h12.1
  have h2 := h12.2
  have hck : checkC (tailP ⟨b, 0⟩).1 = 0 := by
    refine Decidable.byContradiction fun hn => ?_
    unfold parseF parseR at h
    rw [e, if_pos hw, if_neg hn] at h
    exact hn h
  refine ⟨hm, h1, h2, hck, ?_⟩
  unfold parseF parseR
  rw [e, if_pos hw, if_pos hck]
theorem parse_more {b : List UInt8} (h : (parseF b).2 = 0) (x : UInt8) : (parseF (b ++ [x])).2 = 102 := by
  obtain ⟨hm, h1, h2, -, -⟩ := parse_ok h
  have hl : 5 ≤ b.length := by
    have h3 := congrArg List.length (beq_iff_eq.1 hm)
    rw [List.length_take] at h3
    have h4 : magicL.length = 5 := rfl
    omega
  have hm2 : ((b ++ [x]).take 5 == magicL) = true := by rw [List.take_append_of_le_length hl]; exact hm
  have e : objP ⟨b ++ [x], 0⟩ = tailP ⟨b ++ [x], 0⟩ := by rw [obj_tail]; unfold magicP; rw [if_pos hm2]
  have e2 := good_tail.ext b [x] h1
  have hw : wrongP (tailP ⟨b ++ [x], 0⟩) = 102 := by
    unfold wrongP
    rw [e2]
    rw [if_pos ⟨rfl, by rw [h2]; simp⟩]
  unfold parseF parseR
  rw [e, hw, if_neg (by decide)]
theorem parse_less {b : List UInt8} (h : (parseF b).2 = 0) (n : Nat) (hn : n < b.length) : (parseF (b.take n)).2 = if n < 5 then 100 else 101 := by
  obtain ⟨hm, h1, h2, -, -⟩ := parse_ok h
  by_cases h5 : n < 5
  · rw [if_pos h5]
    have hm2 : ¬ ((b.take n).take 5 == magicL) = true := fun q => by
      have h3 := congrArg List.length (beq_iff_eq.1 q)
      rw [List.length_take, List.length_take] at h3
      have h4 : magicL.length = 5 := rfl
      omega
    have e : magicP ⟨b.take n, 0⟩ = ⟨b.take n, 100⟩ := by unfold magicP; rw [if_neg hm2]
    have e2 : (tailP ⟨b.take n, 100⟩).2 = ⟨b.take n, 100⟩ := good_tail.stay _ (show (100 : Int) ≠ 0 by decide)
    have hw : wrongP (objP ⟨b.take n, 0⟩) = 100 := by
      unfold wrongP
      rw [obj_tail, e, e2, if_neg (fun q => absurd q.1 (show ¬ (100 : Int) = 0 by decide))]
    unfold parseF parseR
    rw [hw, if_neg (by decide)]
  · rw [if_neg h5]
    have hm2 : ((b.take n).take 5 == magicL) = true := by rw [List.take_take, show min 5 n = 5 by omega]; exact hm
    have e : objP ⟨b.take n, 0⟩ = tailP ⟨b.take n, 0⟩ := by rw [obj_tail]; unfold magicP; rw [if_pos hm2]
    have hb : b.take n ++ b.drop n = b := List.take_append_drop n b
    have hc := good_tail.cut (b.take n) (b.drop n) (by rw [hb]; exact h1)
    have h101 : (tailP ⟨b.take n, 0⟩).2.wrong = 101 := by
      rcases hc with h0 | h0
      · have e2 := good_tail.ext (b.take n) (b.drop n) h0
        rw [hb] at e2
        rw [e2] at h2
        have h6 : b.drop n = [] := (List.append_eq_nil_iff.1 h2).2
        have h7 := congrArg List.length h6
        rw [List.length_drop] at h7
        simp at h7
        omega
      · exact h0
    have hw : wrongP (tailP ⟨b.take n, 0⟩) = 101 := by
      unfold wrongP
      rw [h101, if_neg (fun q => absurd q.1 (show ¬ (101 : Int) = 0 by decide))]
    unfold parseF parseR
    rw [e, hw, if_neg (by decide)]
end Go.Proofs.Ytidnojjhchmmgaa
