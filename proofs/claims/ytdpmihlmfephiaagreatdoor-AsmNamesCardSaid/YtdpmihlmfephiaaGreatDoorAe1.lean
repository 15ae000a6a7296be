/- What is listed is read again: plain mathematics of texts and codes. -/
import Derived.Test.YtdpmihlmfephiaaGreatDoorAd2
namespace Go.Proofs.YtdpmihlmfephiaaGreatDoor
set_option linter.unusedVariables false
set_option linter.unusedSimpArgs false
open Go

def okC (c : UInt8) : Bool := (decide (97 ≤ c.toNat) && decide (c.toNat ≤ 122)) || (isNb c || (c == 32 || (c == 40 || (c == 41 || c == 44))))
def okL (l : List UInt8) : Prop := ∀ c ∈ l, okC c = true
theorem okL_app {a b : List UInt8} (ha : okL a) (hb : okL b) : okL (a ++ b) := fun c hc => by
  rcases List.mem_append.1 hc with h | h
  · exact ha c h
  · exact hb c h
theorem okL_cons {x : UInt8} {b : List UInt8} (ha : okC x = true) (hb : okL b) : okL (x :: b) := fun c hc => by
  rcases List.mem_cons.1 hc with rfl | h
  · exact ha
  · exact hb c h
theorem okL_nil : okL [] := fun c hc => by simp at hc
theorem okL_itoa (n : Int) : okL (Lib.itoa n) := fun c hc => by unfold okC; rw [itoa_nb n c hc]; simp
theorem okL_reg (n : Int) : okL (regT n) := okL_cons (by decide) (okL_itoa n)
theorem okL_place (n r : Int) : okL (placeT n r) := okL_app (okL_itoa n) (okL_cons (by decide) (okL_app (okL_reg r) (okL_cons (by decide) okL_nil)))
theorem okL_sep {a b : List UInt8} (ha : okL a) (hb : okL b) : okL (a ++ ([44, 32] ++ b)) := okL_app ha (okL_app (okL_cons (by decide) (okL_cons (by decide) okL_nil)) hb)
theorem okL_op (op : Int) (h1 : 1 ≤ op) (h2 : op ≤ 82) : okL (opN op) := fun c hc => by
  have := (opN_ok op h1 h2).2 c hc
  unfold okC
  rw [decide_eq_true this.1, decide_eq_true this.2]; rfl
/-- the end of a text: no blank, no colon -/
def endsOk (l : List UInt8) : Prop := ∃ u c, l = u ++ [c] ∧ c ≠ 32 ∧ c ≠ 58
theorem ends_app {a b : List UInt8} (h : endsOk b) : endsOk (a ++ b) := by
  obtain ⟨u, c, rfl, h1, h2⟩ := h
  exact ⟨a ++ u, c, by rw [List.append_assoc], h1, h2⟩
theorem ends_ne {l : List UInt8} (h0 : l ≠ []) (h : ∀ c ∈ l, c ≠ 32 ∧ c ≠ 58) : endsOk l :=
  ⟨l.dropLast, l.getLast h0, (List.dropLast_concat_getLast h0).symm, (h _ (List.getLast_mem h0)).1, (h _ (List.getLast_mem h0)).2⟩
theorem nb_not (c : UInt8) (h : isNb c = true) : c ≠ 32 ∧ c ≠ 58 := ⟨fun e => by subst e; exact absurd h (by decide), fun e => by subst e; exact absurd h (by decide)⟩
theorem ends_itoa (n : Int) : endsOk (Lib.itoa n) := ends_ne (itoa_ne n) (fun c hc => nb_not c (itoa_nb n c hc))
theorem ends_reg (n : Int) : endsOk (regT n) := ends_app (a := [99]) (ends_itoa n)
theorem ends_place (n r : Int) : endsOk (placeT n r) := ⟨Lib.itoa n ++ 40 :: regT r, 41, by unfold placeT; simp, by decide, by decide⟩
theorem ends_op (op : Int) (h1 : 1 ≤ op) (h2 : op ≤ 82) : endsOk (opN op) := ends_ne (opN_ok op h1 h2).1 (fun c hc => by
  have := (opN_ok op h1 h2).2 c hc
  exact ⟨fun e => by subst e; exact absurd this.1 (by decide), fun e => by subst e; exact absurd this.1 (by decide)⟩)
theorem ends_sep {a b : List UInt8} (h : endsOk b) : endsOk (a ++ ([44, 32] ++ b)) := ends_app (ends_app h)
theorem ends_sp {a : List UInt8} (h : endsOk a) : endsOk (32 :: a) := ends_app (a := [32]) h
theorem okL_sp {a : List UInt8} (h : okL a) : okL (32 :: a) := okL_cons (by decide) h
/-- whether a text ends with a number behind a comma -/
def numEnd (t : List UInt8) (n : Int) : Prop := ∃ pre, t = pre ++ ([44, 32] ++ Lib.itoa n)
theorem text_form (op : Int) (x : Ins) (hok : okI op x = true) : okL (textF op x.rd x.rs1 x.rs2 x.n) ∧ endsOk (textF op x.rd x.rs1 x.rs2 x.n) ∧ ((kindA op = 5 ∨ kindA op = 7) → numEnd (textF op x.rd x.rs1 x.rs2 x.n) x.n) := by
  obtain ⟨h1, h2, -, -⟩ := okI_parts hok
  have hk : kindA op = kindZ (bareN op) := if_pos ⟨h1, h2⟩
  have ho := okL_op op h1 h2
  have he := ends_op op h1 h2
  unfold textF
  rw [hk]
  generalize opN op = o at ho he
  have t3 : ∀ a b c : List UInt8, tailT [a, b, c] = 32 :: (a ++ ([44, 32] ++ (b ++ ([44, 32] ++ c)))) := fun a b c => by rw [← join3]; rfl
  have t2 : ∀ a b : List UInt8, tailT [a, b] = 32 :: (a ++ ([44, 32] ++ b)) := fun a b => by rw [← join2]; rfl
  rcases kinds_op op h1 h2 with h | h | h | h | h | h | h | h | h | h <;> rw [h]
  · rw [show opdF 1 x.rd x.rs1 x.rs2 x.n = [regT x.rd, regT x.rs1, regT x.rs2] from rfl, t3]
    exact ⟨okL_app ho (okL_sp (okL_sep (okL_reg _) (okL_sep (okL_reg _) (okL_reg _)))), ends_app (ends_sp (ends_sep (ends_sep (ends_reg _)))), fun q => by omega⟩
  · rw [show opdF 2 x.rd x.rs1 x.rs2 x.n = [regT x.rd, regT x.rs1, Lib.itoa x.n] from rfl, t3]
    exact ⟨okL_app ho (okL_sp (okL_sep (okL_reg _) (okL_sep (okL_reg _) (okL_itoa _)))), ends_app (ends_sp (ends_sep (ends_sep (ends_itoa _)))), fun q => by omega⟩
  · rw [show opdF 3 x.rd x.rs1 x.rs2 x.n = [regT x.rd, placeT x.n x.rs1] from rfl, t2]
    exact ⟨okL_app ho (okL_sp (okL_sep (okL_reg _) (okL_place _ _))), ends_app (ends_sp (ends_sep (ends_place _ _))), fun q => by omega⟩
  · rw [show opdF 4 x.rd x.rs1 x.rs2 x.n = [regT x.rs2, placeT x.n x.rs1] from rfl, t2]
    exact ⟨okL_app ho (okL_sp (okL_sep (okL_reg _) (okL_place _ _))), ends_app (ends_sp (ends_sep (ends_place _ _))), fun q => by omega⟩
  · rw [show opdF 5 x.rd x.rs1 x.rs2 x.n = [regT x.rs1, regT x.rs2, Lib.itoa x.n] from rfl, t3]
    exact ⟨okL_app ho (okL_sp (okL_sep (okL_reg _) (okL_sep (okL_reg _) (okL_itoa _)))), ends_app (ends_sp (ends_sep (ends_sep (ends_itoa _)))), fun _ => ⟨o ++ 32 :: (regT x.rs1 ++ ([44, 32] ++ regT x.rs2)), by simp⟩⟩
  · rw [show opdF 6 x.rd x.rs1 x.rs2 x.n = [regT x.rd, Lib.itoa x.n] from rfl, t2]
    exact ⟨okL_app ho (okL_sp (okL_sep (okL_reg _) (okL_itoa _))), ends_app (ends_sp (ends_sep (ends_itoa _))), fun q => by omega⟩
  · rw [show opdF 7 x.rd x.rs1 x.rs2 x.n = [regT x.rd, Lib.itoa x.n] from rfl, t2]
    exact ⟨okL_app ho (okL_sp (okL_sep (okL_reg _) (okL_itoa _))), ends_app (ends_sp (ends_sep (ends_itoa _))), fun _ => ⟨o ++ 32 :: regT x.rd, by simp⟩⟩
  · rw [show opdF 8 x.rd x.rs1 x.rs2 x.n = [regT x.rd, regT x.rs1] from rfl, t2]
    exact ⟨okL_app ho (okL_sp (okL_sep (okL_reg _) (okL_reg _))), ends_app (ends_sp (ends_sep (ends_reg _))), fun q => by omega⟩
  · rw [show opdF 9 x.rd x.rs1 x.rs2 x.n = [] from rfl, show tailT [] = [] from rfl, List.append_nil]
    exact ⟨ho, he, fun q => by omega⟩
  · rw [show opdF 10 x.rd x.rs1 x.rs2 x.n = [regT x.rs1, regT x.rs2] from rfl, t2]
    exact ⟨okL_app ho (okL_sp (okL_sep (okL_reg _) (okL_reg _))), ends_app (ends_sp (ends_sep (ends_reg _))), fun q => by omega⟩
theorem ok_not {l : List UInt8} (h : okL l) (c : UInt8) (hc : okC c = false) : c ∉ l := fun hm => by
  have := h c hm
  rw [hc] at this; cases this
theorem text_head (op : Int) (x : Ins) (hok : okI op x = true) : ∃ c r, textF op x.rd x.rs1 x.rs2 x.n = c :: r ∧ c ≠ 32 := by
  obtain ⟨h1, h2, -, -⟩ := okI_parts hok
  obtain ⟨g1, g2⟩ := opN_ok op h1 h2
  unfold textF
  cases ho : opN op with
  | nil => exact absurd ho g1
  | cons c r =>
    have := g2 c (by rw [ho]; simp)
    exact ⟨c, r ++ _, rfl, fun e => by subst e; exact absurd this.1 (by decide)⟩
theorem trim_id {c : UInt8} {r u : List UInt8} {d : UInt8} (h : c :: r = u ++ [d]) (hc : c ≠ 32) (hd : d ≠ 32) : Lib.trimB (c :: r) 32 = c :: r := by
  have h1 : Lib.trimRightB (c :: r) 32 = c :: r := by
    unfold Lib.trimRightB
    rw [h, List.reverse_append, List.reverse_singleton, List.singleton_append, List.dropWhile_cons_of_neg (by simpa using hd), List.reverse_cons, List.reverse_reverse]
  unfold Lib.trimB
  rw [h1]
  unfold Lib.trimLeftB
  exact List.dropWhile_cons_of_neg (by simpa using hc)
theorem clean_text (op : Int) (x : Ins) (hok : okI op x = true) : cleanF (textF op x.rd x.rs1 x.rs2 x.n) = textF op x.rd x.rs1 x.rs2 x.n := by
  obtain ⟨h1, ⟨u, d, hu, h3, -⟩, -⟩ := text_form op x hok
  obtain ⟨c, r, hc, h4⟩ := text_head op x hok
  unfold cleanF
  rw [cut_no 59 _ (ok_not h1 59 (by decide))]
  rw [hc] at hu ⊢
  exact trim_id hu h4 h3
theorem label_text (op : Int) (x : Ins) (hok : okI op x = true) : labelF (textF op x.rd x.rs1 x.rs2 x.n) = none := by
  obtain ⟨-, ⟨u, d, hu, -, h3⟩, -⟩ := text_form op x hok
  unfold labelF
  rw [hu, if_neg]
  rintro ⟨h, -⟩
  simp at h
  exact h3 h
theorem name_num (n : Int) : nameB (Lib.itoa n) = false := by
  cases h : Lib.itoa n with
  | nil => rfl
  | cons c r =>
    have hn := itoa_nb n c (by rw [h]; simp)
    have hl : letterB c = false := by
      rw [letterB_nat]
      unfold isNb isDg at hn
      have hc : c.toNat = 45 ∨ (48 ≤ c.toNat ∧ c.toNat ≤ 57) := by
        rcases Bool.or_eq_true _ _ ▸ hn with q | q
        · left; have := beq_iff_eq.1 q; rw [this]; rfl
        · right; simpa using q
      rw [Bool.eq_false_iff]
      intro q
      simp at q
      omega
    show (letterB c && _) = false
    rw [hl]; rfl
theorem aim_num (s pre : List UInt8) (n : Int) (hs : s = pre ++ ([44, 32] ++ Lib.itoa n)) : aimF s = none := by
  have hlen : s.length = pre.length + (2 + (Lib.itoa n).length) := by rw [hs]; simp; omega
  have hocc : Lib.occAt s sepT pre.length = true := by
    unfold Lib.occAt
    rw [hs, List.drop_left]
    exact List.isPrefixOf_iff_prefix.2 (List.prefix_append _ _)
  have hlate : ∀ i, pre.length < i → Lib.occAt s sepT i = false := fun i hi => by
    refine prefix_no (b := 44) (p := [32]) ?_
    intro h
    have hm : s[i]? = ([44, 32] ++ Lib.itoa n)[i - pre.length]? := by rw [hs, List.getElem?_append_right (by omega)]
    rw [hm] at h
    rcases Nat.lt_or_ge (i - pre.length) 2 with q | q
    · have : i - pre.length = 1 := by omega
      rw [this] at h
      simp at h
    · rw [List.getElem?_append_right (by simpa using q)] at h
      exact itoa_not n 44 (by decide) (List.mem_of_getElem? h)
  unfold aimF
  split
  · split
    · rfl
    · rename_i hneg
      have hi : Lib.lastIndex s sepT = (pre.length : Int) := by
        unfold Lib.lastIndex at hneg ⊢
        split
        · rename_i hle
          rw [if_pos hle] at hneg
          rcases Lib.lastOcc_spec s sepT (s.length - sepT.length + 1) with ⟨e, hall⟩ | ⟨i, hi, e, ho, hmax⟩
          · rw [e] at hneg; exact absurd (by decide) hneg
          · rw [e]
            have h2 : sepT.length = 2 := rfl
            rcases Nat.lt_trichotomy i pre.length with q | q | q
            · have := hmax pre.length q (by rw [h2]; omega)
              rw [hocc] at this; cases this
            · rw [q]
            · have := hlate i q
              rw [ho] at this; cases this
        · rename_i hle
          rw [if_neg hle] at hneg
          exact absurd (by decide) hneg
      have hd : s.drop ((Lib.lastIndex s sepT).toNat + 2) = Lib.itoa n := by
        rw [hi, Int.toNat_natCast, hs, ← List.append_assoc]
        exact List.drop_left' (by simp)
      rw [hd, name_num, if_neg (by decide)]
  · rfl
theorem kindS_text (op : Int) (x : Ins) (hok : okI op x = true) : kindS (textF op x.rd x.rs1 x.rs2 x.n) = kindA op := by
  obtain ⟨h1, h2, -, -⟩ := okI_parts hok
  unfold kindS
  rw [(cut_text op x.rd x.rs1 x.rs2 x.n h1 h2).1, findF_name op h1 h2]
theorem aim_text (op : Int) (x : Ins) (hok : okI op x = true) : aimF (textF op x.rd x.rs1 x.rs2 x.n) = none := by
  by_cases hk : kindA op = 5 ∨ kindA op = 7
  · obtain ⟨-, -, h3⟩ := text_form op x hok
    obtain ⟨pre, hp⟩ := h3 hk
    exact aim_num _ pre x.n hp
  · unfold aimF
    rw [kindS_text op x hok, if_neg]
    simpa using hk
theorem asm_text (all : List (Nat × List UInt8)) (op : Int) (x : Ins) (hok : okI op x = true) (p : Nat) : asmN all (textF op x.rd x.rs1 x.rs2 x.n) p = .inr (encO (op, x)) := by
  unfold asmN
  rw [aim_text op x hok]
  simp only [parF_text op x hok]
/-! Codes. -/
def txY (y : Int × Ins) : List UInt8 := textF y.1 y.2.rd y.2.rs1 y.2.rs2 y.2.n
def codeY (ys : List (Int × Ins)) : List UInt8 := ys.flatMap fun y => le4 (encO y)
def textY (ys : List (Int × Ins)) : List UInt8 := ys.flatMap fun y => txY y ++ [10]
theorem par_okI {s : List UInt8} {y : Int × Ins} (h : parF s = some y) : okI y.1 y.2 = true := by
  obtain ⟨op, x⟩ := y
  exact ((parF_iff _ _ _).1 h).1
theorem asm_of {all : List (Nat × List UInt8)} {s : List UInt8} {p w : Nat} (h : asmN all s p = .inr w) : ∃ y, okI y.1 y.2 = true ∧ w = encO y := by
  unfold asmN at h
  split at h
  · split at h
    · cases h
    · split at h
      · cases h
      · split at h
        · cases h
        · rename_i hy
          cases h; exact ⟨_, par_okI hy, rfl⟩
  · split at h
    · cases h
    · rename_i hy
      cases h; exact ⟨_, par_okI hy, rfl⟩
theorem goN_code {all : List (Nat × List UInt8)} : ∀ (l : List (Nat × List UInt8)) (code c : List UInt8), goN all l code = (c, 0, 0) → ∃ ys : List (Int × Ins), (∀ y ∈ ys, okI y.1 y.2 = true) ∧ ys.length ≤ l.length ∧ c = code ++ codeY ys
  | [], code, c, h => by
    simp only [goN, Prod.mk.injEq, and_true] at h
    exact ⟨[], by simp, Nat.le_refl _, by rw [← h]; simp [codeY]⟩
  | x :: l, code, c, h => by
    cases hl : labelF x.2 with
    | some o =>
      rw [goN_lab _ _ hl] at h
      split at h
      · obtain ⟨ys, h1, h2, h3⟩ := goN_code l code c h
        exact ⟨ys, h1, by rw [List.length_cons]; omega, h3⟩
      · have := congrArg (fun z => z.2.2) h
        have h51 : (51 : Int) = 0 := this
        exact absurd h51 (by decide)
    | none =>
      rw [goN_ins _ _ hl] at h
      cases ha : asmN all x.2 code.length with
      | inl e =>
        rw [ha] at h
        have := congrArg (fun z => z.2.2) h
        have he : e = 0 := this
        rcases asm_err ha with q | q <;> omega
      | inr w =>
        rw [ha] at h
        obtain ⟨y, hy, rfl⟩ := asm_of ha
        obtain ⟨ys, h1, h2, h3⟩ := goN_code l _ c h
        refine ⟨y :: ys, fun z hz => ?_, by rw [List.length_cons, List.length_cons]; omega, by rw [h3]; unfold codeY; rw [List.flatMap_cons, List.append_assoc]⟩
        rcases List.mem_cons.1 hz with rfl | hz
        · exact hy
        · exact h1 z hz
theorem le4_len (w : Nat) : (le4 w).length = 4 := rfl
theorem codeY_len (ys : List (Int × Ins)) : (codeY ys).length = 4 * ys.length := by
  unfold codeY
  induction ys with
  | nil => rfl
  | cons y r ih => rw [List.flatMap_cons, List.length_append, ih, le4_len, List.length_cons]; omega
theorem w4_le4 (w : Nat) (h : w < 4294967296) (r : List UInt8) : w4 (le4 w ++ r) = w := by
  unfold w4
  have ht : (le4 w ++ r).take 4 = le4 w := List.take_left' (le4_len w)
  have hm : ∀ x : Nat, (UInt8.ofNat (x % 256)).toNat = x % 256 := fun x => by simp
  rw [ht]
  unfold le4 ofB
  simp only [List.map_cons, List.map_nil, hm]
  show ofN [w % 256, w / 256 % 256, w / 65536 % 256, w / 16777216 % 256] = w
  simp only [ofN]
  omega
theorem dec_enc (op : Int) (x : Ins) (hok : okI op x = true) : encO (op, x) < 4294967296 ∧ ((decN (encO (op, x)) : Nat) : Int) = op ∧ decN (encO (op, x)) ≠ 0 ∧ insD (encO (op, x)) (decN (encO (op, x))) = x := by
  have hlt := encO_lt (parF_text op x hok)
  have hr : rightB op x.rd x.rs1 x.rs2 x.n = true := hok
  obtain ⟨⟨g1, g2⟩, h1, h2⟩ := back_dec op x.rd x.rs1 x.rs2 x.n hr
  have he : encR op x.rd x.rs1 x.rs2 x.n = encO (op, x) := by unfold encR; rw [if_pos hr]; rfl
  rw [he] at h1 h2
  have ho : decN (encO (op, x)) = op.toNat := by
    rcases h1 with ⟨k, -⟩ | ⟨k1, k2, k3⟩
    · omega
    · rcases decN_spec (encO (op, x)) with ⟨k, hall⟩ | ⟨m1, m2, m3⟩
      · have := hall (op.toNat - 1) (by omega)
        rw [show (((op.toNat - 1 : Nat) : Int) + 1) = ((op.toNat : Nat) : Int) by omega, k3] at this
        cases this
      · exact decP_one _ _ _ m1 m2 k1 k2 m3 k3
  rw [ho]
  refine ⟨hlt, by omega, by omega, ?_⟩
  unfold decV instV at h2
  rw [if_neg (by omega)] at h2
  simp only [Value.agg.injEq, Array.mk.injEq, List.cons.injEq, Value.int.injEq, true_and, and_true] at h2
  obtain ⟨-, e1, e2, e3, e4⟩ := h2
  unfold insD
  obtain ⟨rd, rs1, rs2, n⟩ := x
  simp only at e1 e2 e3 e4 ⊢
  rw [e1, e2, e3, e4]
theorem listA_code : ∀ (ys : List (Int × Ins)) (acc : List UInt8), (∀ y ∈ ys, okI y.1 y.2 = true) → listA ys.length (codeY ys) acc = (acc ++ textY ys, 0)
  | [], acc, _ => by simp [listA, textY]
  | y :: ys, acc, h => by
    obtain ⟨op, x⟩ := y
    have hok := h (op, x) (by simp)
    obtain ⟨h1, h2, h3, h4⟩ := dec_enc op x hok
    have hc : codeY ((op, x) :: ys) = le4 (encO (op, x)) ++ codeY ys := by unfold codeY; rw [List.flatMap_cons]
    have hw := w4_le4 (encO (op, x)) h1 (codeY ys)
    show (if decN (w4 (codeY ((op, x) :: ys))) = 0 then _ else _) = _
    rw [hc, hw, if_neg h3, List.drop_left' (le4_len _), h4, listA_code ys _ (fun z hz => h z (by simp [hz]))]
    unfold textY lineT
    rw [List.flatMap_cons, List.append_assoc, h2]
    rfl
theorem listX_code (ys : List (Int × Ins)) (h : ∀ y ∈ ys, okI y.1 y.2 = true) : listX (codeY ys) = (textY ys, 0) := by
  unfold listX
  rw [codeY_len, if_neg (by omega), show 4 * ys.length / 4 = ys.length by omega, listA_code ys [] h, List.nil_append]
theorem split_text : ∀ ys : List (Int × Ins), (∀ y ∈ ys, okI y.1 y.2 = true) → Lib.split (textY ys) [10] = ys.map txY ++ [[]]
  | [], _ => split_one 10 [] [] (by simp)
  | y :: ys, h => by
    have hok := h y (by simp)
    have hno : 10 ∉ txY y := ok_not (text_form y.1 y.2 hok).1 10 (by decide)
    have e : textY (y :: ys) = txY y ++ [10] ++ textY ys := by unfold textY; rw [List.flatMap_cons]
    rw [e, split_at 10 [] (txY y) (textY ys) hno, split_text ys (fun z hz => h z (by simp [hz]))]
    rfl
theorem lines_text (ys : List (Int × Ins)) (h : ∀ y ∈ ys, okI y.1 y.2 = true) : linesF (textY ys) = ys.map txY ++ [[]] := by
  unfold linesF
  rw [split_text ys h, List.map_append, List.map_map]
  congr 1
  exact List.map_congr_left fun y hy => clean_text y.1 y.2 (h y hy)
theorem goN_text {all : List (Nat × List UInt8)} : ∀ (ys : List (Int × Ins)) (i : Nat) (code : List UInt8), (∀ y ∈ ys, okI y.1 y.2 = true) → goN all (numbF i (ys.map txY ++ [[]])) code = (code ++ codeY ys, 0, 0)
  | [], i, code, _ => by simp [numbF, goN, codeY]
  | y :: ys, i, code, h => by
    have hok := h y (by simp)
    obtain ⟨c, r, hc, -⟩ := text_head y.1 y.2 hok
    have hne : txY y ≠ [] := by unfold txY; rw [hc]; simp
    have e : numbF i ((y :: ys).map txY ++ [[]]) = (i, txY y) :: numbF (i + 1) (ys.map txY ++ [[]]) := by
      rw [List.map_cons, List.cons_append]
      show (if txY y = [] then _ else _) = _
      rw [if_neg hne]
    rw [e, goN_ins _ _ (label_text y.1 y.2 hok), show asmN all (i, txY y).2 code.length = .inr (encO y) from asm_text all y.1 y.2 hok code.length]
    simp only []
    rw [goN_text ys (i + 1) _ (fun z hz => h z (by simp [hz]))]
    unfold codeY
    rw [List.flatMap_cons, List.append_assoc]
theorem prog_text (ys : List (Int × Ins)) (h : ∀ y ∈ ys, okI y.1 y.2 = true) (hl : (textY ys).length ≤ 4000) : progX (textY ys) = (codeY ys, 0, 0) := by
  unfold progX progF
  rw [if_neg (by omega), lines_text ys h, goN_text ys 1 [] h, List.nil_append]
end Go.Proofs.YtdpmihlmfephiaaGreatDoor
