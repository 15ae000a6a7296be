/- The program's memory: a capability is stored: what its bytes are. -/
import Derived.Test.YteaididdamihlaaTmN
import Derived.Lib.SliceRun
namespace Go.Proofs.Yteaididdamihlaa
set_option linter.unusedVariables false
set_option linter.unusedSimpArgs false
open Go.Joins Go.ChangeShapes Go.WideShapes Go.ChangeAt Go.RowKit Go.Deep

theorem boxN_setCells (l : List Nat) : ∀ (w : World) (q o : Nat) (b : Nat → Nat) (t : Nat → Bool), BoxN w q (pgC b t).toArray → o + l.length ≤ 256 →
    BoxN (w.setCells q o (u8s l)) q (pgC (updB b o l) t).toArray ∧ KP w.heap.size (· = q) w (w.setCells q o (u8s l)) := by
  induction l with
  | nil =>
    intro w q o b t h _
    refine ⟨?_, KP.refl _ _ _⟩
    rw [show pgC (updB b o []) t = pgC b t from pgC_ext (fun j _ => by unfold updB; rw [dif_neg (by simp)]) (fun _ _ => rfl)]
    exact h
  | cons x r ih =>
    intro w q o b t h ho
    rw [List.length_cons] at ho
    have h1 := h.set o (.int .u8 (x : Int))
    rw [pgC_setBy b t o x (by omega)] at h1
    obtain ⟨h2, h3⟩ := ih (w.setCell ⟨q, o, none⟩ (.int .u8 (x : Int))) q (o + 1) _ t h1 (by omega)
    have hsz : (w.setCell ⟨q, o, none⟩ (.int .u8 (x : Int))).heap.size = w.heap.size := by simp [World.setCell]
    refine ⟨?_, (KP.set1 w q o (.int .u8 (x : Int))).trans (h3.mono (by rw [hsz]; exact Nat.le_refl _) (fun _ _ e => e))⟩
    rw [show pgC (updB b o (x :: r)) t = pgC (updB (updB b o [x]) (o + 1) r) t from pgC_ext (fun j _ => by
      unfold updB
      by_cases c1 : o + 1 ≤ j ∧ j < o + 1 + r.length
      · rw [dif_pos c1, dif_pos (by rw [List.length_cons]; omega)]
        obtain ⟨k, rfl⟩ : ∃ k, j = o + 1 + k := ⟨j - (o + 1), by omega⟩
        simp only [show o + 1 + k - (o + 1) = k by omega, show o + 1 + k - o = k + 1 by omega, List.getElem_cons_succ]
      · rw [dif_neg c1]
        by_cases c2 : j = o
        · subst c2
          rw [dif_pos (by rw [List.length_cons]; omega), dif_pos (by simp)]
          simp
        · rw [dif_neg (by rw [List.length_cons]; omega), dif_neg (by simp; omega)]) (fun _ _ => rfl)]
    exact h2
theorem run_clearB (w : World) (ty : TypeId) (q o c : Nat) (b : Nat → Nat) (t : Nat → Bool) (h : BoxN w q (pgC b t).toArray) (ho : o + 32 ≤ 256) :
    ∃ w', (Builtin.clear_ #[38] ty #[.slice (some ⟨q, o, none⟩) 32 c]).run Try.prog w = .ok (.tuple #[]) w' ∧ BoxN w' q (pgC (updB b o (List.replicate 32 0)) t).toArray ∧ KP w.heap.size (· = q) w w' := by
  have hr := Lib.run_clear_slice (P := Try.prog) w 38 5 ty (.int .u8 0) Try.underlying38 (fun w => by kernel_rfl) rfl rfl q o 32 c (by decide)
    (fun j hj => by rw [h.cell, List.getElem?_toArray, pgC_by _ _ _ (by omega)]; rfl) (fun j _ => h.frozen _)
  have he : List.replicate 32 (Value.int .u8 0) = u8s (List.replicate 32 0) := rfl
  rw [he] at hr
  obtain ⟨h1, h2⟩ := boxN_setCells (List.replicate 32 0) w q o b t h (by simpa using ho)
  exact ⟨_, hr, h1, h2⟩
theorem updB_updB (b : Nat → Nat) (i k : Nat) (l l' : List Nat) (h : k + l'.length ≤ l.length) : updB (updB b i l) (i + k) l' = updB b i (splice l k l') := by
  have hl : (splice l k l').length = l.length := length_splice l k l' h
  funext j
  unfold updB
  by_cases c1 : i + k ≤ j ∧ j < i + k + l'.length
  · rw [dif_pos c1, dif_pos (by rw [hl]; omega)]
    have h2 := splice_at l k l' h (j - i)
    rw [if_pos (by omega), List.getElem?_eq_getElem (by rw [hl]; omega), List.getElem?_eq_getElem (by omega)] at h2
    have h3 := Option.some.inj h2
    rw [h3]
    congr 1
    omega
  · rw [dif_neg c1]
    by_cases c2 : i ≤ j ∧ j < i + l.length
    · rw [dif_pos c2, dif_pos (by rw [hl]; exact c2)]
      have h2 := splice_at l k l' h (j - i)
      rw [if_neg (by omega), List.getElem?_eq_getElem (by rw [hl]; omega), List.getElem?_eq_getElem (by omega)] at h2
      exact (Option.some.inj h2).symm
    · rw [dif_neg c2, dif_neg (by rw [hl]; exact c2)]
theorem l8 (w : Nat) : littleN w 8 = [byteN w 0, byteN w 1, byteN w 2, byteN w 3, byteN w 4, byteN w 5, byteN w 6, byteN w 7] := rfl
/-- the bytes that are left behind all that is written -/
theorem cap_bytes (b : Nat → Nat) (i : Nat) (x y z p u v : Nat) : updB (updB (updB (updB (updB (updB b i (List.replicate 32 0)) i (littleN x 8)) (i + 8) (littleN y 8)) (i + 16) (littleN z 8)) (i + 24) [p]) (i + 25) [v] = updB b i (littleN x 8 ++ (littleN y 8 ++ (littleN z 8 ++ [p, v, 0, 0, 0, 0, 0, 0]))) := by
  have h0 : updB (updB b i (List.replicate 32 0)) i (littleN x 8) = updB b i (splice (List.replicate 32 0) 0 (littleN x 8)) := updB_updB b i 0 _ _ (by rw [littleN_length]; simp)
  rw [h0, updB_updB b i 8 _ _ (by rw [length_splice _ _ _ (by rw [littleN_length]; simp), littleN_length]; simp)]
  rw [updB_updB b i 16 _ _ (by rw [length_splice, length_splice] <;> simp [littleN_length, length_splice])]
  rw [updB_updB b i 24 _ _ (by rw [length_splice, length_splice, length_splice] <;> simp [littleN_length, length_splice])]
  rw [updB_updB b i 25 _ _ (by rw [length_splice, length_splice, length_splice, length_splice] <;> simp [l8, splice])]
  rw [l8, l8, l8]
  rfl
theorem cap_bytes2 (b : Nat → Nat) (i u v : Nat) : updB (updB b i [u]) i [v] = updB b i [v] := by
  have := updB_updB b i 0 [u] [v] (by simp)
  exact this
theorem gr_one (P g x : Nat) (hg : g < 8) (hx : x < 8) : inGr (256 * P + 32 * g) 32 (8 * P + x) = decide (x = g) := by
  unfold inGr
  rw [Bool.eq_iff_iff]
  simp only [Bool.and_eq_true, decide_eq_true_eq]
  omega
theorem mks_wrL (m : Mm) (P g : Nat) (c : Cp) (y : Nat) : y ∈ (wrL m (256 * P + 32 * g) (capB c)).mks ↔ y ∈ m.mks ∧ inGr (256 * P + 32 * g) 32 y = false := by
  have hl : capB c ≠ [] := fun e => by have := capB_len c; rw [e] at this; simp at this
  rw [wrL_mk _ _ _ hl, List.mem_filter, capB_len]
  simp
theorem tagP_mks (m : Mm) (g : Nat) : (tagP m g).mks = ins g m.mks := rfl
attribute [local irreducible] wrL capB
/-- a page in which a capability was stored -/
theorem page_putC (m : Mm) (P g : Nat) (c : Cp) (hg : g < 8) : pageC (putC m (256 * P + 32 * g) c) P = pgC (updB (fun j => m.by_ (256 * P + j)) (32 * g) (capB c)) (updT (fun i => decide (8 * P + i ∈ m.mks)) g c.g) := by
  have hl : capB c ≠ [] := fun e => by have := capB_len c; rw [e] at this; simp at this
  have h1 := page_wrL m P (32 * g) (capB c) hl (by rw [capB_len]; omega)
  have h32 : (256 * P + 32 * g) / 32 = 8 * P + g := by omega
  have hb : ∀ j, j < 256 → (putC m (256 * P + 32 * g) c).by_ (256 * P + j) = updB (fun j => m.by_ (256 * P + j)) (32 * g) (capB c) j := fun j hj => by
    have h3 : (wrL m (256 * P + 32 * g) (capB c)).by_ (256 * P + j) = updB (fun j => m.by_ (256 * P + j)) (32 * g) (capB c) j := by
      have h4 := congrArg (fun l => l[j]?) h1
      simp only [pageC_by _ _ _ hj, pgC_by _ _ _ hj, Option.some.injEq, Value.int.injEq, true_and] at h4
      exact Int.ofNat.inj h4
    unfold putC
    split
    · exact h3
    · exact h3
  rw [pageC_eq]
  refine pgC_ext hb (fun x hx => ?_)
  have hgr := gr_one P g x hg hx
  have hmk := mks_wrL m P g c (8 * P + x)
  rw [hgr] at hmk
  clear hb h1 hgr
  unfold updT putC
  cases hc : c.g with
  | true =>
    rw [if_pos rfl]
    rw [tagP_mks, h32]
    by_cases e : x = g
    · rw [if_pos e, decide_eq_true ((mem_ins _ _ _).2 (Or.inl (by rw [e])))]
    · rw [if_neg e]
      rw [decide_eq_false e] at hmk
      refine decide_eq_decide.2 ?_
      rw [mem_ins, hmk]
      constructor
      · rintro (h3 | h3)
        · exact absurd (Nat.add_left_cancel h3) e
        · exact h3.1
      · intro h3; exact Or.inr ⟨h3, rfl⟩
  | false =>
    rw [if_neg (by decide)]
    by_cases e : x = g
    · rw [if_pos e]
      rw [decide_eq_true e] at hmk
      exact decide_eq_false (fun h3 => by have := (hmk.1 h3).2; cases this)
    · rw [if_neg e]
      rw [decide_eq_false e] at hmk
      exact decide_eq_decide.2 ⟨fun h3 => (hmk.1 h3).1, fun h3 => hmk.2 ⟨h3, rfl⟩⟩
theorem page_putC_other (m : Mm) (P g : Nat) (c : Cp) (hg : g < 8) {p : Nat} (hp : p ≠ P) : pageC (putC m (256 * P + 32 * g) c) p = pageC m p := by
  have hl : capB c ≠ [] := fun e => by have := capB_len c; rw [e] at this; simp at this
  have h1 := page_other m P (32 * g) p (capB c) hl (by rw [capB_len]; omega) hp
  have h32 : (256 * P + 32 * g) / 32 = 8 * P + g := by omega
  unfold putC
  split
  · rw [← h1, pageC_eq, pageC_eq]
    refine pgC_ext (fun _ _ => rfl) (fun x hx => decide_eq_decide.2 ?_)
    rw [tagP_mks, h32, mem_ins]
    constructor
    · rintro (h3 | h3)
      · exfalso; clear h1 h32 hl; omega
      · exact h3
    · exact Or.inr
  · exact h1
theorem okm_putC {m : Mm} (h : Okm m) (P g : Nat) (c : Cp) (hg : g < 8) (hin : P ∈ m.pgs) : Okm (putC m (256 * P + 32 * g) c) ∧ (putC m (256 * P + 32 * g) c).pgs = m.pgs ∧ (putC m (256 * P + 32 * g) c).bud = m.bud := by
  have hd : ∀ i, i < 32 → (256 * P + 32 * g + i) / 256 = P := fun i hi => by omega
  have hok := okm_wrL h (a := 256 * P + 32 * g) (l := capB c) (fun i hi => by rw [capB_len] at hi; rw [hd i hi]; exact hin) (capB_lt c)
  have hp := wrL_pgs m (256 * P + 32 * g) (capB c)
  have h32 : (256 * P + 32 * g) / 32 = 8 * P + g := by omega
  have h8 : (8 * P + g) / 8 = P := by omega
  unfold putC
  rw [h32]
  split
  · refine ⟨okm_tagP hok (fun e => ?_) (by rw [hp.1, h8]; exact hin), hp.1, hp.2⟩
    have := ((mks_wrL m P g c _).1 e).2
    rw [gr_one P g g hg hg, decide_eq_true rfl] at this
    cases this
  · exact ⟨hok, hp.1, hp.2⟩
end Go.Proofs.Yteaididdamihlaa
