/- The program's memory: numbers are stored: contracts. -/
import Derived.Test.YtgfkjlknkbdjiaaTmE
namespace Go.Proofs.Ytgfkjlknkbdjiaa
set_option linter.unusedVariables false
set_option linter.unusedSimpArgs false
open Go.Joins Go.ChangeShapes Go.WideShapes Go.ChangeAt Go.RowKit Go.Deep

/-- one page is turned -/
theorem MemO.turn {W W' : World} {M B : Nat} {D : DataW Unit} {pb : Nat → Nat} {F : Nat → Prop} {m : Mm} (h : MemO W M B D pb F m) {p : Nat} (hp : p ∈ m.pgs) (hk : KP W.heap.size (· = pb p) W W') (m' : Mm) (hok : Okm m') (hpg : m'.pgs = m.pgs) (hbd : m'.bud = m.bud)
    (hbx : BoxN W' (pb p) (pageC m' p).toArray) (hoth : ∀ q, q ≠ p → pageC m' q = pageC m q) : MemO W' M B D pb F m' := by
  have hbl : ∀ b, F b → b ≠ pb p → W'.heap[b]? = W.heap[b]? := fun b hf hne => hk.block b (h.lt b hf) hne
  refine ⟨hok, ?_, ?_, ?_, ?_, ?_, h.fm, h.fb, ?_, fun b hf => Nat.lt_of_lt_of_le (h.lt b hf) hk.size⟩
  · rw [hbd]; exact boxN_block h.box (hbl _ h.fm (fun e => h.pm hp e.symm))
  · rw [hpg]; exact own_block h.own (hbl _ h.fb (fun e => h.pB hp e.symm))
  · rw [hpg]; exact h.says
  · intro q hq
    rw [hpg] at hq
    by_cases e : q = p
    · subst e; exact hbx
    · rw [hoth q e]
      exact boxN_block (h.pg q hq) (hbl _ (h.fp q hq) (fun e2 => e (h.inj q hq p hp e2)))
  · rw [hpg]; exact h.inj
  · rw [hpg]; exact h.fp
/-- bytes written within a page: the page's cells -/
theorem page_wrL (m : Mm) (p i : Nat) (l : List Nat) (hl : l ≠ []) (hf : i + l.length ≤ 256) :
    pageC (wrL m (256 * p + i) l) p = pgC (updB (fun j => m.by_ (256 * p + j)) i l) (tgW (fun g => decide (8 * p + g ∈ m.mks)) i l.length) := by
  rw [pageC_eq]
  refine pgC_ext (fun j hj => ?_) (fun g hg => ?_)
  · rw [wrL_by]
    unfold updB
    by_cases h : i ≤ j ∧ j < i + l.length
    · rw [dif_pos h, dif_pos (by omega)]
      congr 1
      omega
    · rw [dif_neg h, dif_neg (by omega)]
  · rw [wrL_mk _ _ _ hl]
    unfold tgW
    rw [Bool.eq_iff_iff]
    simp only [decide_eq_true_eq, List.mem_filter, Bool.and_eq_true, Bool.not_eq_true']
    rw [show inGr (256 * p + i) l.length (8 * p + g) = inGr i l.length g by unfold inGr; congr 1 <;> exact decide_eq_decide.2 (by omega)]
theorem page_other (m : Mm) (p i q : Nat) (l : List Nat) (hl : l ≠ []) (hf : i + l.length ≤ 256) (hq : q ≠ p) : pageC (wrL m (256 * p + i) l) q = pageC m q := by
  rw [pageC_eq, pageC_eq]
  refine pgC_ext (fun j hj => ?_) (fun g hg => ?_)
  · rw [wrL_by, dif_neg (by omega)]
  · rw [wrL_mk _ _ _ hl]
    refine decide_eq_decide.2 ?_
    rw [List.mem_filter]
    constructor
    · exact fun h => h.1
    · intro h
      refine ⟨h, ?_⟩
      have hpos := List.length_pos_iff.2 hl
      unfold inGr
      simp only [Bool.not_eq_true', Bool.and_eq_false_iff, decide_eq_false_iff_not]
      omega
/-- bytes are written into a memory's page -/
theorem wr_any (W : World) (M B : Nat) (D : DataW Unit) (pb : Nat → Nat) (F : Nat → Prop) (m : Mm) (h : MemO W M B D pb F m) (x n c : Nat) (a : Option Addr) (l : List Nat) (hp : x / 256 ∈ m.pgs) (hln : l.length = n) (hn : 0 < n) (hi : x % 256 + n ≤ 256) (hb : ∀ b ∈ l, b < 256)
    (hs : Rd W a n (u8s l)) (hne : ∀ g off, a = some ⟨g, off, none⟩ → ¬ F g) :
    Calls Try.prog 37 #[.pointer (some ⟨pb (x / 256), 0, none⟩), .int .i64 ((x % 256 : Nat) : Int), .slice a n c] W fun e W' => e = .returned (.tuple #[]) ∧ MemO W' M B D pb F (wrL m x l) ∧ KP W.heap.size (· = pb (x / 256)) W W' := by
  have hbx := h.pg _ hp
  rw [pageC_eq] at hbx
  have hl : l ≠ [] := by intro e; subst e; simp at hln; omega
  have hx : 256 * (x / 256) + x % 256 = x := by omega
  refine (write_any W (pb (x / 256)) (x % 256) n c a _ _ l hbx hln hn hi hs (fun g off e e2 => hne g off e (e2 ▸ h.fp _ hp))).mono ?_
  rintro e W' ⟨rfl, h1, h2⟩
  refine ⟨rfl, h.turn hp h2 _ ?_ (wrL_pgs m x l).1 (wrL_pgs m x l).2 ?_ ?_, h2⟩
  · refine okm_wrL h.ok (fun i hi2 => ?_) hb
    rw [show (x + i) / 256 = x / 256 by omega]
    exact hp
  · have := page_wrL m (x / 256) (x % 256) l hl (by omega)
    rw [hx] at this
    rw [this, hln]
    exact h1
  · intro q hq
    have := page_other m (x / 256) (x % 256) q l hl (by omega) hq
    rwa [hx] at this
theorem littleZ_eq (w : Int) (n : Nat) (h1 : 1 ≤ n) (h8 : n ≤ 8) : littleZ w (n : Int) = littleN w.toNat n := by
  unfold littleZ
  rw [if_neg (by omega), Int.toNat_natCast]
theorem littleN_lt (w n : Nat) : ∀ x ∈ littleN w n, x < 256 := fun x hx => by
  obtain ⟨i, -, rfl⟩ := List.mem_map.1 hx
  unfold byteN
  exact Nat.mod_lt _ (by decide)
set_option maxRecDepth 20000 in
theorem store_any (W : World) (M : Nat) (F : Nat → Prop) (m : Mm) (h : MemAt W M F m) (a : Nat) (n w : Int) (ha : a < 18446744073709551616) (hw0 : 0 ≤ w) (hw1 : w < 18446744073709551616) :
    Calls Try.prog 21 #[.pointer (some ⟨M, 0, none⟩), .int .u64 (a : Int), .int .i64 n, .int .u64 w] W fun e W' => e = .returned (.int .i64 (storeF m a n w).2) ∧ MemAt W' M F (storeF m a n w).1 ∧ KP W.heap.size F W W' := by
  obtain ⟨B, D, pb, h⟩ := h
  have HN := Lib.hid (number_any W M B D pb F m h a n ha)
  rcases num_place pb m a n with ⟨he, hn, hal, hin, hv⟩ | ⟨he, hv⟩
  · have hl : storeF m a n w = (wrL m a (littleN w.toNat n.toNat), 0) := by unfold storeF; rw [if_pos he, Int.toNat_natCast]
    rw [hl]
    rw [hv] at HN
    obtain ⟨k, rfl⟩ : ∃ k : Nat, n = k := ⟨n.toNat, by omega⟩
    rw [Int.toNat_natCast] at hal ⊢
    have hf : a % 256 + k ≤ 256 := by
      have h1 : k = 1 ∨ k = 2 ∨ k = 4 ∨ k = 8 := by omega
      rcases h1 with rfl | rfl | rfl | rfl <;> omega
    have HL := Lib.hid (little_any w k W hw0 hw1)
    rw [littleZ_eq w k (by omega) (by omega), littleN_length] at HL
    have HH := Lib.hid h
    have HIN := Lib.hid hin
    have hk0 : 0 < k := by omega
    clear hl hv he h hin
    go_enter Try.func21, Try.ntmps21
    go_wp2_with fail
    refine HN.out.mono ?_; rintro e W1 ⟨rfl, rfl⟩
    go_wp2_with fail
    refine HL.out.mono ?_; rintro e W2 ⟨v, rfl, hown, hb⟩
    obtain ⟨va, vc, rfl, -⟩ := own_slice hown
    have HM2 := Lib.hid (HH.out.below hb)
    have HWR := Lib.hid (wr_any W2 M B D pb F m HM2.out a k vc va (littleN w.toNat k) HIN.out (littleN_length _ _) hk0 hf (littleN_lt _ _) (Rd.of_own hown) (fun g off e hg => by
      rcases hown.2 with ⟨e0, e1⟩ | ⟨g', cap, cur, e1, hg', -⟩
      · omega
      · rw [Value.slice.injEq] at e1
        rw [e1.1] at e
        cases e
        have := HH.out.lt _ hg
        omega))
    have HKB := Lib.hid (KP.of_below F hb)
    have hsz := hb.size
    clear hown hb
    go_wp2_with fail
    refine HWR.out.mono ?_; rintro e W3 ⟨rfl, hm3, hk3⟩
    have HK3 : Hid (KP W.heap.size F W W3) := Lib.hid (HKB.out.trans (hk3.mono hsz (fun b _ e => by rw [e]; exact HH.out.fp _ HIN.out)))
    have HM3 := Lib.hid hm3.at_
    clear hm3 hk3
    go_wp2_with fail
    go_ret
    exact ⟨rfl, HM3.out, HK3.out⟩
  · have hl : storeF m a n w = (m, numE m a n) := by unfold storeF; rw [if_neg he]
    rw [hl]
    rw [hv] at HN
    obtain ⟨e1, he1⟩ : ∃ e, numE m a n = e := ⟨_, rfl⟩
    rw [he1] at HN he ⊢
    have HH := Lib.hid h.at_
    clear hl hv h he1
    go_enter Try.func21, Try.ntmps21
    go_wp2_with fail
    refine HN.out.mono ?_; rintro e W1 ⟨rfl, rfl⟩
    go_wp2_with fail
    go_ret
    exact ⟨rfl, HH.out, KP.refl _ _ _⟩
end Go.Proofs.Ytgfkjlknkbdjiaa
