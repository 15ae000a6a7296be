/- LwM -/
import Derived.Test.YtegoddghfjfibaaGreatDoorZ46
namespace Go.Proofs.YtegoddghfjfibaaGreatDoor
set_option linter.unusedVariables false
set_option linter.unusedSimpArgs false
open Go

theorem byteN_succ (w i : Nat) : byteN w (i + 1) = byteN (w / 256) i := by
  unfold byteN
  rw [Nat.div_div_eq_div_mul, show 8 * (i + 1) = 8 * i + 8 by omega, Nat.pow_add, Nat.mul_comm (2 ^ (8 * i)) (2 ^ 8)]
theorem littleN_cons (w n : Nat) : littleN w (n + 1) = w % 256 :: littleN (w / 256) n := by
  unfold littleN
  rw [List.range_succ_eq_map, List.map_cons, List.map_map]
  congr 1
  · unfold byteN; simp
  · refine List.map_congr_left fun i _ => ?_
    exact byteN_succ w i
theorem ofN_little (n w : Nat) : ofN (littleN w n) = w % 256 ^ n := by
  induction n generalizing w with
  | zero => rw [Nat.pow_zero, Nat.mod_one]; rfl
  | succ n ih =>
    rw [littleN_cons]
    show w % 256 + 256 * ofN (littleN (w / 256) n) = _
    rw [ih, Nat.pow_succ, Nat.mul_comm (256 ^ n) 256, Nat.mod_mul]

theorem mm7_in (p : Nat) (h : p < 16) : p ∈ mm7.pgs := by
  have : mm7 = addN (emptyM 16) 0 16 := by
    unfold mm7 mapF
    rw [if_neg (by decide +kernel), if_neg (by decide +kernel), if_neg (by decide +kernel)]
    rfl
  rw [this]
  exact (addN_mem (emptyM 16) 0 16 p).2 (Or.inl ⟨Nat.zero_le _, by omega⟩)
theorem storeF_ok {m : Mm} {a : Nat} {w : Nat} (ha : a % 4 = 0) (hp : a / 256 ∈ m.pgs) : (storeF m (a : Int) 4 (w : Int)).1 = wrL m a (littleN w 4) := by
  have hn : numE m (a : Int) 4 = 0 := by
    unfold numE isIn
    rw [if_neg (by decide), if_neg (by omega), if_pos]
    rw [decide_eq_true_eq, show ((a : Int) / 256).toNat = a / 256 by omega]
    exact hp
  unfold storeF
  rw [if_pos hn]
  simp
/-- what stands behind so many instructions -/
theorem code_at (xs : List InsZ) (hx : xs.length ≤ 64) : ∀ k, k ≤ xs.length → (codeF (xs.take k)).1.pgs = mm7.pgs ∧ ∀ i, i < k → ∀ (hi : i < xs.length), ∀ j, j < 4 → (codeF (xs.take k)).1.by_ (4 * i + j) = byteN (Is.encR xs[i].o xs[i].d xs[i].a xs[i].c xs[i].n) j := by
  intro k
  induction k with
  | zero => exact fun _ => ⟨rfl, fun i hi => absurd hi (by omega)⟩
  | succ k ih =>
    intro hk
    have hkl : k < xs.length := by omega
    obtain ⟨ip, ib⟩ := ih (by omega)
    rw [codeF_snoc xs k hkl]
    have hs := storeF_ok (m := (codeF (xs.take k)).1) (a := 4 * k) (w := Is.encR xs[k].o xs[k].d xs[k].a xs[k].c xs[k].n) (by omega) (by rw [ip]; exact mm7_in _ (by omega))
    rw [hs]
    refine ⟨by rw [(wrL_pgs _ _ _).1]; exact ip, fun i hi hil j hj => ?_⟩
    rw [wrL_by]
    have hl : (littleN (Is.encR xs[k].o xs[k].d xs[k].a xs[k].c xs[k].n) 4).length = 4 := by simp [littleN]
    by_cases hik : i = k
    · subst hik
      rw [dif_pos ⟨by omega, by rw [hl]; omega⟩]
      simp only [littleN, List.getElem_map, List.getElem_range, show 4 * i + j - 4 * i = j by omega]
    · rw [dif_neg (by rw [hl]; omega)]
      exact ib i (by omega) hil j hj
theorem code_load (xs : List InsZ) (hx : xs.length ≤ 64) (i : Nat) (hi : i < xs.length) : loadF (codeF xs).1 ((4 * i : Nat) : Int) 4 = (((Is.encR xs[i].o xs[i].d xs[i].a xs[i].c xs[i].n : Nat) : Int), 0) := by
  obtain ⟨hp, hb⟩ := code_at xs hx xs.length (Nat.le_refl _)
  rw [List.take_of_length_le (Nat.le_refl _)] at hp hb
  have hn : numE (codeF xs).1 ((4 * i : Nat) : Int) 4 = 0 := by
    unfold numE isIn
    rw [if_neg (by decide), if_neg (by omega), if_pos]
    rw [decide_eq_true_eq, hp, show (((4 * i : Nat) : Int) / 256).toNat = 4 * i / 256 by omega]
    exact mm7_in _ (by omega)
  unfold loadF
  rw [if_pos hn]
  have hm : manyB (codeF xs).1 (4 * i) 4 = littleN (Is.encR xs[i].o xs[i].d xs[i].a xs[i].c xs[i].n) 4 := by
    unfold manyB littleN
    refine List.map_congr_left fun j hj => ?_
    exact hb i hi hi j (List.mem_range.1 hj)
  have e : (((4 * i : Nat) : Int)).toNat = 4 * i := by omega
  rw [e, show ((4 : Int)).toNat = 4 from rfl, hm]
  unfold ofB
  rw [List.take_of_length_le (by simp [littleN]), ofN_little]
  have := Is.encR_lt xs[i].o xs[i].d xs[i].a xs[i].c xs[i].n
  rw [Nat.mod_eq_of_lt (by omega)]
theorem dec_one {x r : Nat} (h : Is.DecP x r) (h0 : r ≠ 0) : decN x = r := by
  rcases h with h | ⟨h1, h2, h3⟩
  · exact absurd h.1 h0
  · rcases decN_P x with h | ⟨g1, g2, g3⟩
    · have := h.2 (r - 1) (by omega)
      rw [show ((r - 1 : Nat) : Int) + 1 = (r : Int) by omega, h3] at this
      cases this
    · exact Is.decP_one x (decN x) r g1 g2 h1 h2 g3 h3
/-- a step where an instruction's number stands -/
theorem step_enc (s : Mch) (op rd r1 r2 : Nat) (n : Int) (hck : checkP s.pc 4 4 = 0) (hl : loadF s.m ((s.pc.a.toNat : Nat) : Int) 4 = (((Is.encR op rd r1 r2 n : Nat) : Int), 0)) (hr : Is.rightB op rd r1 r2 n = true) : stepP s = doP s ⟨op, rd, r1, r2, n⟩ := by
  obtain ⟨⟨h1, h2⟩, hd, hv⟩ := Is.back_dec op rd r1 r2 n hr
  have he := Is.encR_lt op rd r1 r2 n
  obtain ⟨x, hx⟩ : ∃ x, Is.encR op rd r1 r2 n = x := ⟨_, rfl⟩
  rw [hx] at hd hv he hl
  have ho : ((op : Int)).toNat = op := by omega
  rw [ho] at hd hv
  have hdn := dec_one hd (by omega)
  rw [decV_ins x op (by omega)] at hv
  have hi : insP x op = ⟨op, rd, r1, r2, n⟩ := by
    have hq : insV (insP x op) = insV ⟨op, rd, r1, r2, n⟩ := by injection hv
    obtain ⟨y, hy⟩ : ∃ y, insP x op = y := ⟨_, rfl⟩
    rw [hy] at hq ⊢
    obtain ⟨y0, y1, y2, y3, y4⟩ := y
    unfold insV at hq
    simp only [List.toArray_inj, List.cons.injEq, Value.int.injEq, true_and, and_true, Array.mk.injEq] at hq
    obtain ⟨q0, q1, q2, q3, q4⟩ := hq
    have e0 : y0 = op := by omega
    have e1 : y1 = rd := by omega
    have e2 : y2 = r1 := by omega
    have e3 : y3 = r2 := by omega
    subst e0 e1 e2 e3 q4
    rfl
  unfold stepP
  rw [if_neg (by rw [hck]; decide), hl]
  simp only [Int.toNat_natCast]
  rw [if_neg (by decide), Nat.mod_eq_of_lt he, hdn, if_neg (by omega), hi]
def pcAt (a : Int) : Cp := ⟨0, 2048, a, 13, -1, true⟩
theorem pc_ck (a : Int) (h0 : 0 ≤ a) (h1 : a ≤ 2044) : checkP (pcAt a) 4 4 = 0 := by
  unfold checkP Ce.capCheckC
  have e1 : (cvC (pcAt a)).tag = true := rfl
  have e2 : (cvC (pcAt a)).sealed = false := rfl
  have e3 : (bits .and .i64 (cvC (pcAt a)).perms 4 == 4) = true := by
    show (bits .and .i64 13 4 == 4) = true
    decide
  have e4 : Ce.hasC (cvC (pcAt a)) 4 = true := by
    unfold Ce.hasC
    simp only [Bool.and_eq_true, decide_eq_true_eq]
    exact ⟨h0, by show (4 : Int) ≤ 18446744073709551615 - a; omega, by show a + 4 ≤ 2048; omega⟩
  rw [if_pos e1, e2, if_neg (by decide), if_pos e3, if_pos e4]
theorem pc_next (a : Int) (h0 : 0 ≤ a) (h1 : a ≤ 2044) : aheadP (pcAt a) 4 = pcAt (a + 4) := by
  have : IntKind.u64.wrap (a + 4) = a + 4 := by rw [IntKind.wrap_u64]; omega
  show moveP (pcAt a) (IntKind.u64.wrap (a + 4)) = _
  rw [this]
  rfl
end Go.Proofs.YtegoddghfjfibaaGreatDoor

