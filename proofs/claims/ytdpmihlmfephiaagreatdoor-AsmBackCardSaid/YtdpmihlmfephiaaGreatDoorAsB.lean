/- Texts of instructions, and instructions of texts: plain mathematics over the operations' names, kindsA and numbers. -/
import Derived.Test.YtdpmihlmfephiaaGreatDoorAsA
import Derived.Test.YtdpmihlmfephiaaGreatDoorOpsT
import Derived.Test.YtdpmihlmfephiaaGreatDoorIsaN
namespace Go.Proofs.YtdpmihlmfephiaaGreatDoor
set_option linter.unusedVariables false
set_option linter.unusedSimpArgs false
open Go

def regT (r : Int) : List UInt8 := 99 :: Lib.itoa r
def placeT (n r : Int) : List UInt8 := Lib.itoa n ++ 40 :: (regT r ++ [41])
/-- an instruction's operands, as texts -/
def opdF (k rd rs1 rs2 n : Int) : List (List UInt8) :=
  if (k == 1) = true then [regT rd, regT rs1, regT rs2]
  else if (k == 2) = true then [regT rd, regT rs1, Lib.itoa n]
  else if (k == 3) = true then [regT rd, placeT n rs1]
  else if (k == 4) = true then [regT rs2, placeT n rs1]
  else if (k == 5) = true then [regT rs1, regT rs2, Lib.itoa n]
  else if (k == 6) = true then [regT rd, Lib.itoa n]
  else if (k == 7) = true then [regT rd, Lib.itoa n]
  else if (k == 8) = true then [regT rd, regT rs1]
  else if (k == 10) = true then [regT rs1, regT rs2] else []
def sepT : List UInt8 := [44, 32]
def tailT (l : List (List UInt8)) : List UInt8 := if l = [] then [] else 32 :: Lib.join l sepT
def kindA (op : Int) : Int := if 1 ≤ op ∧ op ≤ 82 then kindZ (bareN op) else 0
def textF (op rd rs1 rs2 n : Int) : List UInt8 := opN op ++ tailT (opdF (kindA op) rd rs1 rs2 n)
def regAt (l : List (List UInt8)) (i : Nat) : Int := match l[i]? with
  | some t => numB (Lib.trimPrefix t [99])
  | none => 0
def numAt (l : List (List UInt8)) (i : Nat) : Int := match l[i]? with
  | some t => numB t
  | none => 0
structure Ins where
  rd : Int
  rs1 : Int
  rs2 : Int
  n : Int
deriving DecidableEq
def fillF (k : Int) (l : List (List UInt8)) : Ins :=
  if (k == 1) = true then ⟨regAt l 0, regAt l 1, regAt l 2, 0⟩
  else if (k == 2) = true then ⟨regAt l 0, regAt l 1, 0, numAt l 2⟩
  else if (k == 3) = true then ⟨regAt l 0, regAt l 2, 0, numAt l 1⟩
  else if (k == 4) = true then ⟨0, regAt l 2, regAt l 0, numAt l 1⟩
  else if (k == 5) = true then ⟨0, regAt l 0, regAt l 1, numAt l 2⟩
  else if (k == 6) = true then ⟨regAt l 0, 0, 0, numAt l 1⟩
  else if (k == 7) = true then ⟨regAt l 0, 0, 0, numAt l 1⟩
  else if (k == 8) = true then ⟨regAt l 0, regAt l 1, 0, 0⟩
  else if (k == 10) = true then ⟨0, regAt l 0, regAt l 1, 0⟩ else ⟨0, 0, 0, 0⟩
/-- the texts of operands: a place's number and its register are two -/
def partsF (k : Int) (rest : List UInt8) : List (List UInt8) :=
  let l := Lib.split rest sepT
  if (k == 3) = true ∨ (k == 4) = true then l.dropLast ++ [(Lib.cut (l.getLastD []) [40]).1, Lib.trimSuffix (Lib.cut (l.getLastD []) [40]).2.1 [41]] else l
def findF (s : List UInt8) : Nat := match (List.range 82).findIdx? (fun (k : Nat) => opN ((k : Int) + 1) == s) with
  | some k => k + 1
  | none => 0
/-- is it an instruction? -/
def okI (op : Int) (x : Ins) : Bool := decide (1 ≤ op ∧ op ≤ 82) && (regsB (kindZ (bareN op)) x.rd x.rs1 x.rs2 && immB (kindZ (bareN op)) (shiftZ (bareN op)) x.n)
def exP (s : List UInt8) : Int × Ins := ((findF (Lib.cut s [32]).1 : Nat), fillF (kindA (findF (Lib.cut s [32]).1 : Nat)) (partsF (kindA (findF (Lib.cut s [32]).1 : Nat)) (Lib.cut s [32]).2.1))
/-- the instruction of a text -/
def parF (s : List UInt8) : Option (Int × Ins) := if okI (exP s).1 (exP s).2 = true ∧ textF (exP s).1 (exP s).2.rd (exP s).2.rs1 (exP s).2.rs2 (exP s).2.n = s then some (exP s) else none

/-! Registers and numbers of instructions. -/
theorem fitB_in {n : Int} {t : Bool} (h : fitB n t = true) : 0 ≤ n ∧ n < 32 ∧ (t = false → n = 0) := by
  unfold fitB at h
  by_cases h0 : n = 0
  · subst h0; exact ⟨by decide, by decide, fun _ => rfl⟩
  · rw [if_neg (by simpa using h0)] at h
    cases t with
    | false => simp at h
    | true =>
      simp at h
      exact ⟨by omega, h.2, fun h => by cases h⟩
theorem immB_in {k s n : Int} (h : immB k s n = true) : -2147483648 ≤ n ∧ n < 2147483648 := by
  unfold immB at h
  repeat' split at h
  all_goals (simp at h; omega)
theorem regsB_fit {k rd rs1 rs2 : Int} (h : regsB k rd rs1 rs2 = true) : fitB rd (hasZ k).1 = true ∧ fitB rs1 (hasZ k).2.1 = true ∧ fitB rs2 (hasZ k).2.2 = true := by
  unfold regsB at h
  split at h
  · rename_i h1
    split at h
    · rename_i h2
      exact ⟨h1, h2, h⟩
    · cases h
  · cases h
theorem numB_reg {r : Int} (h : 0 ≤ r ∧ r < 32) : numB (Lib.trimPrefix (regT r) [99]) = r := by
  unfold regT
  rw [trimP, numB_itoa r (by omega) (by omega)]
theorem numB_imm {k s n : Int} (h : immB k s n = true) : numB (Lib.itoa n) = n := by
  have := immB_in h
  exact numB_itoa n (by omega) (by omega)
theorem regT_not (r : Int) (c : UInt8) (h : isNb c = false) (h' : c ≠ 99) : c ∉ regT r := by
  unfold regT
  intro hc
  rcases List.mem_cons.1 hc with e | hc
  · exact h' e
  · exact itoa_not r c h hc
theorem placeT_not (n r : Int) (c : UInt8) (h : isNb c = false) (h' : c ≠ 99) (h1 : c ≠ 40) (h2 : c ≠ 41) : c ∉ placeT n r := by
  unfold placeT
  intro hc
  rcases List.mem_append.1 hc with hc | hc
  · exact itoa_not n c h hc
  · rcases List.mem_cons.1 hc with e | hc
    · exact h1 e
    · rcases List.mem_append.1 hc with hc | hc
      · exact regT_not r c h h' hc
      · exact h2 (by simpa using hc)
/-- what stands in no operand -/
theorem opdF_not (k rd rs1 rs2 n : Int) (c : UInt8) (h : isNb c = false) (h' : c ≠ 99) (h1 : c ≠ 40) (h2 : c ≠ 41) : ∀ x ∈ opdF k rd rs1 rs2 n, c ∉ x := by
  intro x hx
  unfold opdF at hx
  repeat' split at hx
  all_goals
    first
      | (simp only [List.mem_cons, List.not_mem_nil, or_false] at hx
         rcases hx with rfl | rfl | rfl <;> first | exact regT_not _ c h h' | exact itoa_not _ c h | exact placeT_not _ _ c h h' h1 h2)
      | (simp only [List.mem_cons, List.not_mem_nil, or_false] at hx
         rcases hx with rfl | rfl <;> first | exact regT_not _ c h h' | exact itoa_not _ c h | exact placeT_not _ _ c h h' h1 h2)
      | (simp at hx)
theorem split_opd (k rd rs1 rs2 n : Int) (h : opdF k rd rs1 rs2 n ≠ []) : Lib.split (Lib.join (opdF k rd rs1 rs2 n) sepT) sepT = opdF k rd rs1 rs2 n := by
  have hn := opdF_not k rd rs1 rs2 n 44 (by decide) (by decide) (by decide) (by decide)
  cases hl : opdF k rd rs1 rs2 n with
  | nil => exact absurd hl h
  | cons x l => rw [hl] at hn; exact split_join 44 [32] x l hn
theorem cut_place (n r : Int) : Lib.cut (placeT n r) [40] = (Lib.itoa n, regT r ++ [41], true) := cut_at 40 _ _ (itoa_not n 40 (by decide))
theorem parts_plain (k rd rs1 rs2 n : Int) (h3 : k ≠ 3) (h4 : k ≠ 4) (h : opdF k rd rs1 rs2 n ≠ []) : partsF k (Lib.join (opdF k rd rs1 rs2 n) sepT) = opdF k rd rs1 rs2 n := by
  unfold partsF
  simp only []
  rw [if_neg (by simp [h3, h4]), split_opd _ _ _ _ _ h]
theorem opdF_3 (rd rs1 rs2 n : Int) : opdF 3 rd rs1 rs2 n = [regT rd, placeT n rs1] := rfl
theorem opdF_4 (rd rs1 rs2 n : Int) : opdF 4 rd rs1 rs2 n = [regT rs2, placeT n rs1] := rfl
theorem parts_3 (rd rs1 rs2 n : Int) : partsF 3 (Lib.join (opdF 3 rd rs1 rs2 n) sepT) = [regT rd, Lib.itoa n, regT rs1] := by
  unfold partsF
  simp only []
  rw [if_pos (by decide), split_opd _ _ _ _ _ (by rw [opdF_3]; simp), opdF_3]
  simp only [List.getLastD_cons, List.getLastD_nil, cut_place, trimS, List.dropLast]
  rfl
theorem parts_4 (rd rs1 rs2 n : Int) : partsF 4 (Lib.join (opdF 4 rd rs1 rs2 n) sepT) = [regT rs2, Lib.itoa n, regT rs1] := by
  unfold partsF
  simp only []
  rw [if_pos (by decide), split_opd _ _ _ _ _ (by rw [opdF_4]; simp), opdF_4]
  simp only [List.getLastD_cons, List.getLastD_nil, cut_place, trimS, List.dropLast]
  rfl
def kindsA (k : Int) : Prop := k = 1 ∨ k = 2 ∨ k = 3 ∨ k = 4 ∨ k = 5 ∨ k = 6 ∨ k = 7 ∨ k = 8 ∨ k = 9 ∨ k = 10
theorem immB_zero {k s n : Int} (h : immB k s n = true) (hk : k = 1 ∨ k = 8 ∨ k = 9 ∨ k = 10) : n = 0 := by
  rcases hk with rfl | rfl | rfl | rfl <;> simpa [immB] using h
theorem fill_back (k s rd rs1 rs2 n : Int) (hk : kindsA k) (hr : regsB k rd rs1 rs2 = true) (hi : immB k s n = true) :
    fillF k (partsF k (Lib.join (opdF k rd rs1 rs2 n) sepT)) = ⟨rd, rs1, rs2, n⟩ := by
  obtain ⟨f1, f2, f3⟩ := regsB_fit hr
  obtain ⟨a1, a2, a3⟩ := fitB_in f1
  obtain ⟨b1, b2, b3⟩ := fitB_in f2
  obtain ⟨c1, c2, c3⟩ := fitB_in f3
  have e1 := numB_reg ⟨a1, a2⟩
  have e2 := numB_reg ⟨b1, b2⟩
  have e3 := numB_reg ⟨c1, c2⟩
  have e4 := numB_imm hi
  rcases hk with rfl | rfl | rfl | rfl | rfl | rfl | rfl | rfl | rfl | rfl
  · have := immB_zero hi (by simp)
    subst this
    rw [parts_plain _ _ _ _ _ (by decide) (by decide) (by simp [opdF])]
    simp [fillF, opdF, regAt, numAt, e1, e2, e3]
  · have := c3 (by decide)
    subst this
    rw [parts_plain _ _ _ _ _ (by decide) (by decide) (by simp [opdF])]
    simp [fillF, opdF, regAt, numAt, e1, e2, e4]
  · have := c3 (by decide)
    subst this
    rw [parts_3]
    simp [fillF, regAt, numAt, e1, e2, e4]
  · have := a3 (by decide)
    subst this
    rw [parts_4]
    simp [fillF, regAt, numAt, e3, e2, e4]
  · have := a3 (by decide)
    subst this
    rw [parts_plain _ _ _ _ _ (by decide) (by decide) (by simp [opdF])]
    simp [fillF, opdF, regAt, numAt, e2, e3, e4]
  · have := b3 (by decide)
    subst this
    have := c3 (by decide)
    subst this
    rw [parts_plain _ _ _ _ _ (by decide) (by decide) (by simp [opdF])]
    simp [fillF, opdF, regAt, numAt, e1, e4]
  · have := b3 (by decide)
    subst this
    have := c3 (by decide)
    subst this
    rw [parts_plain _ _ _ _ _ (by decide) (by decide) (by simp [opdF])]
    simp [fillF, opdF, regAt, numAt, e1, e4]
  · have := immB_zero hi (by simp)
    subst this
    have := c3 (by decide)
    subst this
    rw [parts_plain _ _ _ _ _ (by decide) (by decide) (by simp [opdF])]
    simp [fillF, opdF, regAt, numAt, e1, e2]
  · have := immB_zero hi (by simp)
    subst this
    have := a3 (by decide)
    subst this
    have := b3 (by decide)
    subst this
    have := c3 (by decide)
    subst this
    rfl
  · have := immB_zero hi (by simp)
    subst this
    have := a3 (by decide)
    subst this
    rw [parts_plain _ _ _ _ _ (by decide) (by decide) (by simp [opdF])]
    simp [fillF, opdF, regAt, numAt, e2, e3]
/-! Names of operations. -/
def nameOk (l : List UInt8) : Bool := !l.isEmpty && l.all (fun c => decide (97 ≤ c.toNat) && decide (c.toNat ≤ 122))
theorem asNames_ok : ((List.range 82).all fun k => nameOk (opN ((k : Int) + 1))) = true := by decide +kernel
theorem names_one : ((List.range 82).all fun i => (List.range 82).all fun j => i == j || opN ((i : Int) + 1) != opN ((j : Int) + 1)) = true := by decide +kernel
theorem opN_ok (op : Int) (h1 : 1 ≤ op) (h2 : op ≤ 82) : opN op ≠ [] ∧ ∀ c ∈ opN op, 97 ≤ c.toNat ∧ c.toNat ≤ 122 := by
  have h := List.all_eq_true.1 asNames_ok (op.toNat - 1) (List.mem_range.2 (by omega))
  rw [show (((op.toNat - 1 : Nat) : Int) + 1) = op by omega] at h
  unfold nameOk at h
  simp at h
  exact ⟨h.1, fun c hc => by have := h.2 c hc; omega⟩
theorem opN_no (op : Int) (h1 : 1 ≤ op) (h2 : op ≤ 82) (c : UInt8) (hc : c.toNat < 97 ∨ 122 < c.toNat) : c ∉ opN op := fun h => by have := (opN_ok op h1 h2).2 c h; omega
theorem opN_inj (i j : Int) (h1 : 1 ≤ i) (h2 : i ≤ 82) (h3 : 1 ≤ j) (h4 : j ≤ 82) (h : opN i = opN j) : i = j := by
  have hh := List.all_eq_true.1 (List.all_eq_true.1 names_one (i.toNat - 1) (List.mem_range.2 (by omega))) (j.toNat - 1) (List.mem_range.2 (by omega))
  rw [show (((i.toNat - 1 : Nat) : Int) + 1) = i by omega, show (((j.toNat - 1 : Nat) : Int) + 1) = j by omega, h] at hh
  simp at hh
  omega
theorem findF_name (op : Int) (h1 : 1 ≤ op) (h2 : op ≤ 82) : ((findF (opN op) : Nat) : Int) = op := by
  unfold findF
  cases h : (List.range 82).findIdx? (fun (k : Nat) => opN ((k : Int) + 1) == opN op) with
  | none =>
    rw [List.findIdx?_eq_none_iff] at h
    have := h (op.toNat - 1) (List.mem_range.2 (by omega))
    rw [show (((op.toNat - 1 : Nat) : Int) + 1) = op by omega] at this
    simp at this
  | some k =>
    rw [List.findIdx?_eq_some_iff_getElem] at h
    obtain ⟨hk, hq, -⟩ := h
    simp at hk hq
    simp only []
    have := opN_inj ((k : Int) + 1) op (by omega) (by omega) h1 h2 hq
    omega
theorem findF_le (s : List UInt8) : findF s ≤ 82 := by
  unfold findF
  cases h : (List.range 82).findIdx? (fun (k : Nat) => opN ((k : Int) + 1) == s) with
  | none => simp
  | some k =>
    rw [List.findIdx?_eq_some_iff_getElem] at h
    obtain ⟨hk, -⟩ := h
    simp at hk
    simp only []; omega
theorem okI_parts {op : Int} {x : Ins} (h : okI op x = true) : 1 ≤ op ∧ op ≤ 82 ∧ regsB (kindZ (bareN op)) x.rd x.rs1 x.rs2 = true ∧ immB (kindZ (bareN op)) (shiftZ (bareN op)) x.n = true := by
  unfold okI at h
  simp at h
  exact ⟨h.1.1, h.1.2, h.2.1, h.2.2⟩
theorem kinds_op (op : Int) (h1 : 1 ≤ op) (h2 : op ≤ 82) : kindsA (kindZ (bareN op)) := by
  unfold kindsA
  refine classes (P := fun b => kindZ b = 1 ∨ kindZ b = 2 ∨ kindZ b = 3 ∨ kindZ b = 4 ∨ kindZ b = 5 ∨ kindZ b = 6 ∨ kindZ b = 7 ∨ kindZ b = 8 ∨ kindZ b = 9 ∨ kindZ b = 10) op h1 h2 ?_ ?_ ?_ ?_ ?_ ?_ ?_ ?_ ?_ ?_ ?_ <;> intros <;> omega
theorem cut_text (op rd rs1 rs2 n : Int) (h1 : 1 ≤ op) (h2 : op ≤ 82) : (Lib.cut (textF op rd rs1 rs2 n) [32]).1 = opN op ∧ (Lib.cut (textF op rd rs1 rs2 n) [32]).2.1 = Lib.join (opdF (kindA op) rd rs1 rs2 n) sepT := by
  unfold textF tailT
  have hn := opN_no op h1 h2 32 (by decide)
  split
  · rename_i h
    rw [List.append_nil, cut_no 32 _ hn, h]
    exact ⟨rfl, rfl⟩
  · rw [cut_at 32 _ _ hn]
    exact ⟨rfl, rfl⟩
theorem exP_text (op : Int) (x : Ins) (h : okI op x = true) : exP (textF op x.rd x.rs1 x.rs2 x.n) = (op, x) := by
  obtain ⟨h1, h2, h3, h4⟩ := okI_parts h
  obtain ⟨e1, e2⟩ := cut_text op x.rd x.rs1 x.rs2 x.n h1 h2
  have hk : kindA op = kindZ (bareN op) := if_pos ⟨h1, h2⟩
  unfold exP
  rw [e1, e2, findF_name op h1 h2, hk, fill_back _ _ _ _ _ _ (kinds_op op h1 h2) h3 h4]
theorem parF_text (op : Int) (x : Ins) (h : okI op x = true) : parF (textF op x.rd x.rs1 x.rs2 x.n) = some (op, x) := by
  unfold parF
  rw [exP_text op x h, if_pos ⟨h, rfl⟩]
theorem parF_iff (s : List UInt8) (op : Int) (x : Ins) : parF s = some (op, x) ↔ okI op x = true ∧ textF op x.rd x.rs1 x.rs2 x.n = s := by
  constructor
  · intro h
    unfold parF at h
    split at h
    · rename_i hh
      injection h with h
      rw [h] at hh
      exact hh
    · cases h
  · rintro ⟨h, rfl⟩
    exact parF_text op x h
end Go.Proofs.YtdpmihlmfephiaaGreatDoor
