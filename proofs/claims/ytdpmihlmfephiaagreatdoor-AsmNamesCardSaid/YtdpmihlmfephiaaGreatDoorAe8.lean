/- A label's name does not matter: plain mathematics of one text. -/
import Derived.Test.YtdpmihlmfephiaaGreatDoorAe3
namespace Go.Proofs.YtdpmihlmfephiaaGreatDoor
set_option linter.unusedVariables false
set_option linter.unusedSimpArgs false
open Go

def addL : List UInt8 := [97, 100, 100, 32, 99, 49, 44, 32, 99, 50, 44, 32, 99, 51]
def beqH : List UInt8 := [98, 101, 113, 32, 99, 49, 44, 32, 99, 50, 44, 32]
def opAdd : Nat := findF [97, 100, 100]
def opBeq : Nat := findF [98, 101, 113]
theorem add_text : textF opAdd 1 2 3 0 = addL := by decide +kernel
theorem add_ok : okI opAdd ⟨1, 2, 3, 0⟩ = true := by decide +kernel
theorem beq_all : ((List.range 101).all fun k => okI opBeq ⟨0, 1, 2, -(4 * (k : Int))⟩) = true := by decide +kernel
theorem beq_ok (k : Nat) (h : k ≤ 100) : okI opBeq ⟨0, 1, 2, -(4 * (k : Int))⟩ = true := List.all_eq_true.1 beq_all k (List.mem_range.2 (by omega))
theorem beq_form : opN opBeq = [98, 101, 113] ∧ kindA opBeq = 5 ∧ regT 1 = [99, 49] ∧ regT 2 = [99, 50] := by decide +kernel
theorem beq_text (n : Int) : textF opBeq 0 1 2 n = beqH ++ Lib.itoa n := by
  obtain ⟨h1, h2, h3, h4⟩ := beq_form
  unfold textF
  rw [h1, h2, show opdF 5 0 1 2 n = [regT 1, regT 2, Lib.itoa n] from rfl, h3, h4, show tailT [[99, 49], [99, 50], Lib.itoa n] = 32 :: Lib.join [[99, 49], [99, 50], Lib.itoa n] sepT from rfl, join3]
  rfl
/-- what a name's bytes are not -/
theorem name_not {nm : List UInt8} (h : nameB nm = true) : ∀ c ∈ nm, c ≠ 10 ∧ c ≠ 32 ∧ c ≠ 44 ∧ c ≠ 58 ∧ c ≠ 59 := by
  intro c hc
  obtain ⟨j, hj, rfl⟩ := List.getElem_of_mem hc
  have := ((nameB_iff nm).1 h).2 j hj
  unfold okB at this
  simp only [Bool.or_eq_true, Bool.and_eq_true, decide_eq_true_eq, beq_iff_eq] at this
  have k : ∀ d : UInt8, d.toNat < 48 ∨ (57 < d.toNat ∧ d.toNat < 65) → nm[j] ≠ d := fun d hd e => by rw [e] at this; omega
  exact ⟨k 10 (by decide), k 32 (by decide), k 44 (by decide), k 58 (by decide), k 59 (by decide)⟩
theorem name_ne {nm : List UInt8} (h : nameB nm = true) : nm ≠ [] := ((nameB_iff nm).1 h).1
theorem name_ends {nm : List UInt8} (h : nameB nm = true) : endsOk nm := ends_ne (name_ne h) fun c hc => ⟨(name_not h c hc).2.1, (name_not h c hc).2.2.2.1⟩
theorem beqH_not (c : UInt8) (h : c = 10 ∨ c = 59) : c ∉ beqH := by rcases h with rfl | rfl <;> decide
theorem cutless {l : List UInt8} (h : 59 ∉ l) : cleanF l = Lib.trimB l 32 := by unfold cleanF; rw [cut_no 59 l h]
theorem clean_id {l u : List UInt8} {c d : UInt8} {r : List UInt8} (h0 : 59 ∉ l) (h1 : l = c :: r) (h2 : l = u ++ [d]) (hc : c ≠ 32) (hd : d ≠ 32) : cleanF l = l := by
  rw [cutless h0]
  subst h1
  exact trim_id h2 hc hd
theorem clean_beq {nm : List UInt8} (h : nameB nm = true) : cleanF (beqH ++ nm) = beqH ++ nm := by
  obtain ⟨u, d, hu, h1, -⟩ := name_ends h
  refine clean_id (c := 98) (r := beqH.tail ++ nm) (u := beqH ++ u) (d := d) ?_ rfl ?_ (by decide) h1
  · intro hm
    rcases List.mem_append.1 hm with q | q
    · exact beqH_not 59 (.inr rfl) q
    · exact (name_not h 59 q).2.2.2.2 rfl
  · rw [hu, List.append_assoc]
theorem clean_label {nm : List UInt8} (h : nameB nm = true) : cleanF (nm ++ [58]) = nm ++ [58] := by
  cases hn : nm with
  | nil => exact absurd hn (name_ne h)
  | cons c r =>
    rw [hn] at h
    refine clean_id (c := c) (r := r ++ [58]) (u := c :: r) (d := 58) ?_ rfl rfl (name_not h c (by simp)).2.1 (by decide)
    intro hm
    rcases List.mem_append.1 hm with q | q
    · exact (name_not h 59 q).2.2.2.2 rfl
    · simp at q
theorem label_of {nm : List UInt8} (h : nameB nm = true) : labelF (nm ++ [58]) = some nm := by
  unfold labelF
  rw [List.dropLast_concat, if_pos ⟨by simp, h⟩]
theorem label_beq {nm : List UInt8} (h : nameB nm = true) : labelF (beqH ++ nm) = none := by
  obtain ⟨u, d, hu, -, h2⟩ := name_ends h
  unfold labelF
  rw [hu, if_neg]
  rintro ⟨q, -⟩
  rw [← List.append_assoc] at q
  simp at q
  exact h2 q
theorem aim_beq {nm : List UInt8} (h : nameB nm = true) : aimF (beqH ++ nm) = some (beqH, nm) := by
  have hk : kindS (beqH ++ nm) = 5 := by
    unfold kindS
    have e : beqH ++ nm = [98, 101, 113] ++ 32 :: ([99, 49, 44, 32, 99, 50, 44, 32] ++ nm) := by simp [beqH]
    rw [e, cut_at 32 [98, 101, 113] _ (by decide)]
    exact beq_form.2.1
  have hlen : (beqH ++ nm).length = 12 + nm.length := by rw [List.length_append]; rfl
  have hocc : Lib.occAt (beqH ++ nm) sepT 10 = true := by
    unfold Lib.occAt
    have e : (beqH ++ nm).drop 10 = [44, 32] ++ nm := rfl
    rw [e]
    exact List.isPrefixOf_iff_prefix.2 (List.prefix_append _ _)
  have hlate : ∀ i, 10 < i → Lib.occAt (beqH ++ nm) sepT i = false := fun i hi => by
    refine prefix_no (b := 44) (p := [32]) ?_
    intro hq
    rcases Nat.lt_or_ge i 12 with q | q
    · have : i = 11 := by omega
      rw [this, List.getElem?_append_left (by decide)] at hq
      exact absurd hq (by decide)
    · rw [List.getElem?_append_right (by exact q)] at hq
      exact (name_not h 44 (List.mem_of_getElem? hq)).2.2.1 rfl
  have hi : Lib.lastIndex (beqH ++ nm) sepT = (10 : Int) := by
    unfold Lib.lastIndex
    have h2 : sepT.length = 2 := rfl
    rw [if_pos (by rw [h2, hlen]; omega)]
    rcases Lib.lastOcc_spec (beqH ++ nm) sepT ((beqH ++ nm).length - sepT.length + 1) with ⟨e, hall⟩ | ⟨i, hi, e, ho, hmax⟩
    · have := hall 10 (by rw [h2, hlen]; omega)
      rw [hocc] at this; cases this
    · rw [e]
      rcases Nat.lt_trichotomy i 10 with q | q | q
      · have := hmax 10 q (by rw [h2, hlen]; omega)
        rw [hocc] at this; cases this
      · rw [q]; rfl
      · have := hlate i q
        rw [ho] at this; cases this
  unfold aimF
  rw [hk, if_pos (Or.inl (by decide)), hi, if_neg (by decide)]
  have hd : (beqH ++ nm).drop ((10 : Int).toNat + 2) = nm := rfl
  have ht : (beqH ++ nm).take ((10 : Int).toNat + 2) = beqH := List.take_left' rfl
  rw [hd, ht, if_pos h]
/-- the text: a label, k additions, a jump back -/
def namT (nm : List UInt8) (k : Nat) : List UInt8 := nm ++ [58] ++ [10] ++ ((List.replicate k (addL ++ [10])).flatten ++ (beqH ++ nm))
theorem split_adds (z : List UInt8) : ∀ k : Nat, Lib.split ((List.replicate k (addL ++ [10])).flatten ++ z) [10] = List.replicate k addL ++ Lib.split z [10]
  | 0 => rfl
  | k + 1 => by
    have e : (List.replicate (k + 1) (addL ++ [10])).flatten ++ z = addL ++ [10] ++ ((List.replicate k (addL ++ [10])).flatten ++ z) := by
      rw [List.replicate_succ, List.flatten_cons, List.append_assoc]
    rw [e, split_at 10 [] addL _ (by decide), split_adds z k]
    rfl
theorem clean_add : cleanF addL = addL := by decide +kernel
theorem linesF_nam {nm : List UInt8} (h : nameB nm = true) (k : Nat) : linesF (namT nm k) = (nm ++ [58]) :: (List.replicate k addL ++ [beqH ++ nm]) := by
  unfold linesF namT
  rw [split_at 10 [] (nm ++ [58]) _ (fun hm => by
    rcases List.mem_append.1 hm with q | q
    · exact (name_not h 10 q).1 rfl
    · simp at q), split_adds, split_one 10 [] (beqH ++ nm) (fun hm => by
    rcases List.mem_append.1 hm with q | q
    · exact beqH_not 10 (.inl rfl) q
    · exact (name_not h 10 q).1 rfl)]
  rw [List.map_cons, List.map_append, clean_label h, List.map_replicate, clean_add, List.map_cons, List.map_nil, clean_beq h]
def namC (k : Nat) : List UInt8 := (List.replicate k (le4 (encO (opAdd, ⟨1, 2, 3, 0⟩)))).flatten ++ le4 (encO (opBeq, ⟨0, 1, 2, -(4 * (k : Int))⟩))
theorem label_add : labelF addL = none := by decide +kernel
theorem numbF_cons {s : List UInt8} (h : s ≠ []) (i : Nat) (r : List (List UInt8)) : numbF i (s :: r) = (i, s) :: numbF (i + 1) r := by
  show (if s = [] then _ else _) = _
  rw [if_neg h]
theorem goN_adds {all : List (Nat × List UInt8)} (z : List (List UInt8)) : ∀ (k i : Nat) (code : List UInt8), goN all (numbF i (List.replicate k addL ++ z)) code = goN all (numbF (i + k) z) (code ++ (List.replicate k (le4 (encO (opAdd, ⟨1, 2, 3, 0⟩)))).flatten)
  | 0, i, code => by simp
  | k + 1, i, code => by
    have ha : asmN all addL code.length = .inr (encO (opAdd, ⟨1, 2, 3, 0⟩)) := by
      have := asm_text all opAdd ⟨1, 2, 3, 0⟩ add_ok code.length
      rw [add_text] at this
      exact this
    rw [List.replicate_succ, List.cons_append, numbF_cons (by decide), goN_ins _ _ label_add]
    simp only [ha]
    rw [goN_adds z k (i + 1), List.replicate_succ, List.flatten_cons, List.append_assoc, show i + 1 + k = i + (k + 1) by omega]
theorem adds_len (k : Nat) : ((List.replicate k (le4 (encO (opAdd, ⟨1, 2, 3, 0⟩)))).flatten).length = 4 * k := by
  induction k with
  | zero => rfl
  | succ k ih => rw [List.replicate_succ, List.flatten_cons, List.length_append, ih, le4_len]; omega
theorem parF_beq0 : (parF (beqH ++ [48])).isNone = false := by decide +kernel
theorem prog_nam {nm : List UInt8} (h : nameB nm = true) (k : Nat) (hk : k ≤ 100) (hl : nm.length ≤ 1000) : progX (namT nm k) = (namC k, 0, 0) := by
  have hlen : (namT nm k).length ≤ 4000 := by
    unfold namT
    have e : ((List.replicate k (addL ++ [10])).flatten).length = 15 * k := by
      clear hk
      induction k with
      | zero => rfl
      | succ k ih => rw [List.replicate_succ, List.flatten_cons, List.length_append, ih]; simp [addL]; omega
    simp only [List.length_append, e, List.length_cons, List.length_nil]
    have : beqH.length = 12 := rfl
    omega
  have hlook : ∀ r, lookN nm ((1, nm ++ [58]) :: r) 0 = some (1, 0) := fun r => by simp only [lookN, label_of h]; rfl
  unfold progX progF
  rw [if_neg (by omega), linesF_nam h, numbF_cons (by simp)]
  generalize hr : numbF (1 + 1) (List.replicate k addL ++ [beqH ++ nm]) = r
  rw [goN_lab _ _ (label_of h), hlook]
  refine (if_pos rfl).trans ?_
  rw [← hr, goN_adds, List.nil_append, numbF_cons (by simp [beqH]), goN_ins _ _ (label_beq h)]
  have hp : parF (beqH ++ Lib.itoa (((0 : Nat) : Int) - ((4 * k : Nat) : Int))) = some ((opBeq : Int), ⟨0, 1, 2, -(4 * (k : Int))⟩) := by
    have e : ((0 : Nat) : Int) - ((4 * k : Nat) : Int) = -(4 * (k : Int)) := by omega
    rw [e, ← beq_text]
    exact parF_text opBeq ⟨0, 1, 2, -(4 * (k : Int))⟩ (beq_ok k hk)
  have ha : asmN ((1, nm ++ [58]) :: r) (beqH ++ nm) (4 * k) = .inr (encO (opBeq, ⟨0, 1, 2, -(4 * (k : Int))⟩)) := by
    unfold asmN
    rw [aim_beq h]
    simp only [parF_beq0, hlook, hp]
    rfl
  rw [hr]
  simp only [adds_len, ha]
  rfl
end Go.Proofs.YtdpmihlmfephiaaGreatDoor
