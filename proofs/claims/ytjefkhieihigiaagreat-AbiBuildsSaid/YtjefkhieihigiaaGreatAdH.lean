/- The document's Build, whatever comes of it; two memories beside each other. -/
import Derived.Test.YtjefkhieihigiaaGreatAdG
import Derived.Test.YtjefkhieihigiaaGreatAdX
namespace Go.Proofs.YtjefkhieihigiaaGreat
set_option linter.unusedVariables false
set_option linter.unusedSimpArgs false
open Go.Joins Go.ChangeShapes Go.WideShapes Go.ChangeAt Go.RowKit Go.Deep

theorem rbuild_any (W : World) (N R : Nat) (G : Nat → Prop) (m : Mm) (f : Nat) (p : Int) (a1 a2 a3 : Option Addr) (c1 c2 c3 : Nat) (l1 l2 : List (List UInt8)) (k : List Cp) (hm : ROw W N G R m) (h1 : Rd W a1 l1.length (strs l1)) (h2 : Rd W a2 l2.length (strs l2)) (h3 : RdC W G a3 k) (f3 : ∀ c ∈ k, 0 ≤ c.p ∧ c.p < 256) (hfit : ∀ c ∈ k, FitC c) (hf : f < 18446744073709551616) (hp0 : -9 ≤ p) (hp1 : p ≤ 300)
    (h1n : ∀ b off, 0 < l1.length → a1 = some ⟨b, off, none⟩ → ¬ G b) (h2n : ∀ b off, 0 < l2.length → a2 = some ⟨b, off, none⟩ → ¬ G b) (hl1 : l1.length ≤ 400) (hl2 : l2.length ≤ 400) (hk : k.length ≤ 400) (f1 : ∀ s ∈ l1, s.length ≤ maxLen) (f2 : ∀ s ∈ l2, s.length ≤ maxLen) :
    Calls Tryz.prog 12 #[.pointer (some ⟨R, 0, none⟩), .int .u64 (f : Int), .int .i64 p, .slice a1 l1.length c1, .slice a2 l2.length c2, .slice a3 k.length c3] W fun e W' => e = .returned (.tuple #[.agg (startV (buildD m f p l1 l2 k).2.1), .int .i64 (buildD m f p l1 l2 k).2.2]) ∧ ∃ G', ROw W' N G' R (buildD m f p l1 l2 k).1 ∧ Moves W W' G G' := by
  unfold buildD
  rcases hno : (textsB l1 && (textsB l2 && auxB k)) with _ | _
  · rw [if_pos (by rfl)]
    refine (rb_no W R f p a1 a2 a3 c1 c2 c3 l1 l2 k h1 h2 h3.1 hl1 hl2 hk f1 f2 f3 hno).mono ?_
    rintro e W' ⟨rfl, hb⟩
    exact ⟨by rw [startV_no], G, hm.below hb, Moves.of_below G hb⟩
  rw [if_neg (by simp)]
  obtain ⟨ht1, hq⟩ := Bool.and_eq_true_iff.1 hno
  obtain ⟨ht2, ht3⟩ := Bool.and_eq_true_iff.1 hq
  by_cases hr : 256 * p < (needN l1 l2 k.length : Int) + 64
  · rw [if_pos (by rw [decide_eq_true hr, decide_eq_true (show p ≤ 65536 by omega)]; rfl)]
    refine (rb_room W R f p a1 a2 a3 c1 c2 c3 l1 l2 k h1 h2 h3.1 f3 hp0 hp1 ht1 ht2 ht3 hr).mono ?_
    rintro e W' ⟨rfl, hb⟩
    exact ⟨by rw [startV_no], G, hm.below hb, Moves.of_below G hb⟩
  rw [if_neg (by rw [decide_eq_false hr, Bool.and_false]; simp)]
  by_cases he : (mapF m f p).2 ≠ 0
  · rw [if_pos he]
    refine (rb_err W N R G m f p a1 a2 a3 c1 c2 c3 l1 l2 k hm h1 h2 h3.1 f3 hf hp0 hp1 ht1 ht2 ht3 hr he).mono ?_
    rintro e W' ⟨rfl, hh⟩
    exact ⟨by rw [startV_no], hh⟩
  · rw [if_neg he]
    have hz : (mapF m f p).2 = 0 := by simpa using he
    exact (rb_yes W N R G m f p a1 a2 a3 c1 c2 c3 l1 l2 k hm h1 h2 h3 f3 hfit hf hp0 hp1 h1n h2n ht1 ht2 ht3 hr (mapF m f p).1 (by rw [← hz])).mono fun e W' h => h
/-- the program's memory and the document's, beside each other -/
structure PairD (w : World) (N : Nat) (F : Nat → Prop) (M : Nat) (mm : Mm) (G : Nat → Prop) (R : Nat) (rr : Mm) : Prop where
  own : Own1 w N F M mm
  row : ROw w N G R rr
  d : ∀ b, F b → ¬ G b
theorem PairD.below {w w' : World} {N M R : Nat} {F G : Nat → Prop} {mm rr : Mm} (h : PairD w N F M mm G R rr) (hb : Below w.heap.size w w') : PairD w' N F M mm G R rr := ⟨h.own.below hb, h.row.below hb, h.d⟩
theorem PairD.m {w w' : World} {N M R : Nat} {F F' G : Nat → Prop} {mm mm' rr : Mm} (h : PairD w N F M mm G R rr) (h1 : Own1 w' N F' M mm') (hm : Moves w w' F F') : PairD w' N F' M mm' G R rr ∧ Below N w w' := by
  obtain ⟨h2, h3⟩ := h.row.beside hm (fun b hb hf => h.d b hf hb)
  exact ⟨⟨h1, h2, fun b hf hb => h3 b hb hf⟩, hm.belowN h.own⟩
theorem PairD.r {w w' : World} {N M R : Nat} {F G G' : Nat → Prop} {mm rr rr' : Mm} (h : PairD w N F M mm G R rr) (h1 : ROw w' N G' R rr') (hm : Moves w w' G G') : PairD w' N F M mm G' R rr' ∧ Below N w w' := by
  obtain ⟨h2, h3⟩ := h.own.beside hm h.d
  exact ⟨⟨h2, h1, h3⟩, kp_belowN hm.kp h.row.ge h.row.sz⟩
theorem RdC.oldR {W W' : World} {N R : Nat} {G : Nat → Prop} {m : Mm} {a : Option Addr} {l : List Cp} (h : ROw W' N G R m) (hr : Rd W a (l.length * 6) (capsV l)) (hb : Below N W W') (hN : W.heap.size = N) : RdC W' G a l := by
  subst hN
  refine ⟨hr.below hb, fun g off h0 e => ?_⟩
  obtain ⟨g', off', e', hl, -⟩ := hr.2 (by omega)
  rw [e] at e'
  cases e'
  exact ⟨fun hf => by have := h.ge _ hf; omega, Nat.lt_of_lt_of_le hl hb.size⟩
theorem strs_oldR {W W' : World} {N R : Nat} {G : Nat → Prop} {m : Mm} {a : Option Addr} {l : List (List UInt8)} (h : ROw W' N G R m) (hr : Rd W a l.length (strs l)) (hN : W.heap.size = N) : ∀ b off, 0 < l.length → a = some ⟨b, off, none⟩ → ¬ G b := fun b off h0 e hg => by
  obtain ⟨g', off', e', hl, -⟩ := hr.2 h0
  rw [e] at e'
  cases e'
  have := h.ge _ hg
  omega
theorem lensN_max (l : List (List UInt8)) (b : Nat) (h : ∀ s ∈ l, s.length ≤ b) : lensN l ≤ (b + 1) * l.length := by
  induction l with
  | nil => simp [lensN]
  | cons s r ih =>
    rw [lensN_cons, List.length_cons, Nat.mul_add, Nat.mul_one]
    have := h s (by simp)
    have := ih (fun t ht => h t (List.mem_cons_of_mem _ ht))
    omega
theorem needW_big (a e : List (List UInt8)) (k : Nat) (h : lensN a + lensN e ≤ 4000000000000000000) (ha : a.length ≤ 1000000) (he : e.length ≤ 1000000) (hk : k ≤ 1000000) : needW a e k = (needN a e k : Nat) ∧ IntKind.i64.wrap (((upN (lensN a + lensN e) + ((a.length + 1) + (e.length + 1) + (k + 1)) * 32 : Nat) : Int)) = (needN a e k : Nat) := by
  have h1 : upW (lensN a + lensN e) = (upN (lensN a + lensN e) : Nat) := by
    unfold upW upN
    rw [IntKind.wrap_u64]
    omega
  have h2 : upN (lensN a + lensN e) ≤ 4000000000000000031 := by unfold upN; omega
  unfold needW needN
  rw [h1]
  constructor
  · rw [IntKind.wrap_i64, IntKind.wrap_i64]
    omega
  · rw [IntKind.wrap_i64]
    omega
theorem perm_right {k : List Cp} (h : k.all rightB = true) : ∀ c ∈ k, 0 ≤ c.p ∧ c.p < 256 := fun c hc => by
  have := List.all_eq_true.1 h c hc
  unfold rightB at this
  simp only [Bool.and_eq_true, decide_eq_true_eq] at this
  omega
end Go.Proofs.YtjefkhieihigiaaGreat
