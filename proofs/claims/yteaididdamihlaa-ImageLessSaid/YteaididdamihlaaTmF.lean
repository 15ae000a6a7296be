/- The program's memory: numbers are stored: contracts. -/
import Derived.Test.YteaididdamihlaaTmE
namespace Go.Proofs.Yteaididdamihlaa
set_option linter.unusedVariables false
set_option linter.unusedSimpArgs false
open Go.Joins Go.ChangeShapes Go.WideShapes Go.ChangeAt Go.RowKit Go.Deep

/-- one page is turned -/
theorem MemO.turn {W W' : World} {M B : Nat} {D : DataW Unit} {pb : Nat → Nat} {F : Nat → Prop} {m : Mm} (h : MemO W M B D pb F m) {p : Nat} (hp : p ∈ m.pgs) (hk : KP W.heap.size (· = pb p) W W') (m' : Mm) (hok : Okm m') (hpg : m'.pgs = m.pgs) (hbd : m'.bud = m.bud)
    (hbx : BoxN W' (pb p) (pageC m' p).toArray) (hoth : ∀ q, q ≠ p → pageC m' q = pageC m q) : MemO W' M B D pb F m' := by
  have hbl : ∀ b, F b → b ≠ pb p → W'.heap[b]? = W.heap[b]? := fun b hf hne => hk.block b (h.lt b hf) hne
  refine ⟨hok, ?_, ?_, ?_, ?_, ?_, h.fm, h.fb, ?_, fun b hf => Nat.lt_of_lt_of_le (h.lt b hf) hk.size⟩
  · rw [hbd]; exact boxN_block h.box (hbl _ h.fm (fun e => h.pm hp e.symm))
  · rw [hpg]; exact own_block h.own (hbl _ h.fb (fun e => h.pB hp e.symm))
  · rw [hpg]; exact h.says
  · intro q hq
    rw [hpg] at hq
    by_cases e : q = p
    · subst e; exact hbx
    · rw [hoth q e]
      exact boxN_block (h.pg q hq) (hbl _ (h.fp q hq) (fun e2 => e (h.inj q hq p hp e2)))
  · rw [hpg]; exact h.inj
  · rw [hpg]; exact h.fp
/-- bytes written within a page: the page's cells -/
theorem page_wrL (m : Mm) (p i : Nat) (l : List Nat) (hl : l ≠ []) (hf : i + l.length ≤ 256) :
    pageC (wrL m (256 * p + i) l) p = pgC (updB (fun j => m.by_ (256 * p + j)) i l) (tgW (fun g => decide (8 * p + g ∈ m.mks)) i l.length) := by
  rw [pageC_eq]
  refine pgC_ext (fun j hj => ?_) (fun g hg => ?_)
  · rw [wrL_by]
    unfold updB
    by_cases h : i ≤ j ∧ j < i + l.length
    · rw [dif_pos h, dif_pos (by omega)]
      congr 1
      omega
    · rw [dif_neg h, dif_neg (by omega)]
  · rw [wrL_mk _ _ _ hl]
    unfold tgW
    rw [Bool.eq_iff_iff]
    simp only [decide_eq_true_eq, List.mem_filter, Bool.and_eq_true, Bool.not_eq_true']
    rw [show inGr (256 * p + i) l.length (8 * p + g) = inGr i l.length g by unfold inGr; congr 1 <;> exact decide_eq_decide.2 (by omega)]
theorem page_other (m : Mm) (p i q : Nat) (l : List Nat) (hl : l ≠ []) (hf : i + l.length ≤ 256) (hq : q ≠ p) : pageC (wrL m (256 * p + i) l) q = pageC m q := by
  rw [pageC_eq, pageC_eq]
  refine pgC_ext (fun j hj => ?_) (fun g hg => ?_)
  · rw [wrL_by, dif_neg (by omega)]
  · rw [wrL_mk _ _ _ hl]
    refine decide_eq_decide.2 ?_
    rw [List.mem_filter]
    constructor
    · exact fun h => h.1
    · intro h
      refine ⟨h, ?_⟩
      have hpos := List.length_pos_iff.2 hl
      unfold inGr
      simp only [Bool.not_eq_true', Bool.and_eq_false_iff, decide_eq_false_iff_not]
      omega
/-- bytes are written into a memory's page -/
theorem wr_any (W : World) (M B : Nat) (D : DataW Unit) (pb : Nat → Nat) (F : Nat → Prop) (m : Mm) (h : MemO W M B D pb F m) (x n c : Nat) (a : Option Addr) (l : List Nat) (hp : x / 256 ∈ m.pgs) (hln : l.length = n) (hn : 0 < n) (hi : x % 256 + n ≤ 256) (hb : ∀ b ∈ l, b < 256)
    (hs : Rd W a n (u8s l)) (hne : ∀ g off, a = some ⟨g, off, none⟩ → ¬ F g) :
    Calls Try.prog 46 #[.pointer (some ⟨pb (x / 256), 0, none⟩), .int .i64 ((x % 256 : Nat) : Int), .slice a n c] W fun e W' => e = .returned (.tuple #[]) ∧ MemO W' M B D pb F (wrL m x l) ∧ KP W.heap.size (· = pb (x / 256)) W W' := by
  have hbx := h.pg _ hp
  rw [pageC_eq] at hbx
  have hl : l ≠ [] := by intro e; subst e; simp at hln; omega
  have hx : 256 * (x / 256) + x % 256 = x := by omega
  refine (write_any W (pb (x / 256)) (x % 256) n c a _ _ l hbx hln hn hi hs (fun g off e e2 => hne g off e (e2 ▸ h.fp _ hp))).mono ?_
  rintro e W' ⟨rfl, h1, h2⟩
  refine ⟨rfl, h.turn hp h2 _ ?_ (wrL_pgs m x l).1 (wrL_pgs m x l).2 ?_ ?_, h2⟩
  · refine okm_wrL h.ok (fun i hi2 => ?_) hb
    rw [show (x + i) / 256 = x / 256 by omega]
    exact hp
  · have := page_wrL m (x / 256) (x % 256) l hl (by omega)
    rw [hx] at this
    rw [this, hln]
    exact h1
  · intro q hq
    have := page_other m (x / 256) (x % 256) q l hl (by omega) hq
    rwa [hx] at this
theorem littleZ_eq (w : Int) (n : Nat) (h1 : 1 ≤ n) (h8 : n ≤ 8) : littleZ w (n : Int) = littleN w.toNat n := by
  unfold littleZ
  rw [if_neg (by omega), Int.toNat_natCast]
theorem littleN_lt (w n : Nat) : ∀ x ∈ littleN w n, x < 256 := fun x hx => by
  obtain ⟨i, -, rfl⟩ := List.mem_map.1 hx
  unfold byteN
  exact Nat.mod_lt _ (by decide)
end Go.Proofs.Yteaididdamihlaa
