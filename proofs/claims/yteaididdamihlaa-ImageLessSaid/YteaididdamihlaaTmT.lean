/- The document's memory: a byte is set: contract. -/
import Derived.Test.YteaididdamihlaaTmS
namespace Go.Proofs.Yteaididdamihlaa
set_option linter.unusedVariables false
set_option linter.unusedSimpArgs false
open Go.Joins Go.ChangeShapes Go.WideShapes Go.ChangeAt Go.RowKit Go.Deep

theorem cellsC_snoc (l : List (Nat × Nat)) (x y : Nat) : cellsC (l ++ [(x, y)]) = cellsC l ++ [.int .u64 (x : Int), .int .u8 (y : Int)] := by unfold cellsC; rw [List.flatMap_append]; rfl
theorem mks_filter (l : List Nat) (g : Nat) : (l.map (32 * ·)).filter (· != 32 * g) = (l.filter (· != g)).map (32 * ·) := by
  induction l with
  | nil => rfl
  | cons x r ih =>
    rw [List.map_cons]
    by_cases e : x = g
    · subst e
      rw [List.filter_cons_of_neg (by simp), List.filter_cons_of_neg (by simp), ih]
    · rw [List.filter_cons_of_pos (by simp; omega), List.filter_cons_of_pos (by simpa using e), List.map_cons, ih]
/-- the cells behind a byte's setting -/
def setC (cs : List (Nat × Nat)) (a b : Nat) : List (Nat × Nat) := if b = 0 then cs.filter (fun p => p.1 != a) else cs.filter (fun p => p.1 != a) ++ [(a, b)]
theorem look_filter (cs : List (Nat × Nat)) (a x : Nat) : lookF (cs.filter (fun p => p.1 != a)) x = if x = a then 0 else lookF cs x := by
  induction cs with
  | nil => simp [lookF]
  | cons p r ih =>
    by_cases e : p.1 = a
    · rw [List.filter_cons_of_neg (by simpa using e), ih]
      by_cases hx : x = a
      · rw [if_pos hx, if_pos hx]
      · rw [if_neg hx, if_neg hx]
        conv => rhs; unfold lookF
        rw [if_neg (by omega)]
    · rw [List.filter_cons_of_pos (by simpa using e)]
      conv => lhs; unfold lookF
      rw [ih]
      by_cases hx : x = a
      · rw [if_pos hx, if_neg (by omega), if_pos hx]
      · rw [if_neg hx, if_neg hx]
        conv => rhs; unfold lookF
theorem look_append (cs : List (Nat × Nat)) (a b x : Nat) (h : lookF cs x = 0 ∨ x ≠ a) (hn : x = a → ∀ p ∈ cs, p.1 ≠ a) : lookF (cs ++ [(a, b)]) x = if x = a then b else lookF cs x := by
  induction cs with
  | nil =>
    show (if a = x then b else 0) = if x = a then b else 0
    by_cases e : x = a
    · rw [if_pos e, if_pos e.symm]
    · rw [if_neg e, if_neg (fun q => e q.symm)]
  | cons p r ih =>
    rw [List.cons_append]
    conv => lhs; unfold lookF
    by_cases e : x = a
    · have h1 := hn e p List.mem_cons_self
      rw [if_neg (by rw [e]; exact h1), ih (h.imp (fun h => by unfold lookF at h; rwa [if_neg (by rw [e]; exact h1)] at h) id) (fun q y hy => hn q y (List.mem_cons_of_mem _ hy)), if_pos e, if_pos e]
    · rw [ih (Or.inr e) (fun q => absurd q e), if_neg e, if_neg e]
      conv => rhs; unfold lookF
theorem CellsOk.set {cs : List (Nat × Nat)} {m : Mm} (h : CellsOk cs m) {a b : Nat} (ha : a / 256 ∈ m.pgs) (hb : b < 256) : CellsOk (setC cs a b) (wr1 m a b) := by
  have hne : ∀ p ∈ cs.filter (fun p => p.1 != a), p ∈ cs ∧ p.1 ≠ a := fun p hp => by have := List.mem_filter.1 hp; exact ⟨this.1, by simpa using this.2⟩
  have hnd : ((cs.filter (fun p => p.1 != a)).map Prod.fst).Nodup := List.Nodup.sublist (List.Sublist.map _ List.filter_sublist) h.nd
  unfold setC
  by_cases h0 : b = 0
  · rw [if_pos h0]
    refine ⟨fun x => ?_, fun p hp => h.in_ p (hne p hp).1, hnd⟩
    rw [look_filter, h.look]
    show _ = if x = a then b else m.by_ x
    rw [h0]
  · rw [if_neg h0]
    refine ⟨fun x => ?_, fun p hp => ?_, ?_⟩
    · rw [look_append _ a b x (if e : x = a then Or.inl (by rw [look_filter, if_pos e]) else Or.inr e) (fun _ p hp => (hne p hp).2), look_filter, h.look]
      show _ = if x = a then b else m.by_ x
      by_cases e : x = a
      · rw [if_pos e, if_pos e]
      · rw [if_neg e, if_neg e, if_neg e]
    · rcases List.mem_append.1 hp with q | q
      · exact h.in_ p (hne p q).1
      · rw [List.mem_singleton] at q
        subst q
        exact ⟨ha, hb⟩
    · rw [List.map_append]
      refine List.nodup_append.2 ⟨hnd, by simp, fun x hx y hy e => ?_⟩
      obtain ⟨p, hp, rfl⟩ := List.mem_map.1 hx
      simp at hy
      exact (hne p hp).2 (e.trans hy)
theorem own_kp2 {W W' : World} {B k n : Nat} {e : TypeId} {S : Nat → Prop} {v : Value} {xs : List Value} (h : W.ownsRow B e k v n xs) (hk : KP W.heap.size S W W') (hS : ∀ q, B ≤ q → ¬ S q) : W'.ownsRow B e k v n xs := by
  refine ⟨h.1, ?_⟩
  rcases h.2 with h0 | ⟨g, cap, cur, e1, hg, hb, r⟩
  · exact Or.inl h0
  · refine Or.inr ⟨g, cap, cur, e1, hg, ?_, r⟩
    have hl : g < W.heap.size := (Array.getElem?_eq_some_iff.1 hb).1
    exact (hk.block g hl (hS g hg)).trans hb
theorem own_rd {w : World} {B k n c : Nat} {e : TypeId} {a : Option Addr} {xs : List Value} (h : w.ownsRow B e k (.slice a n c) n xs) : Rd w a (n * k) xs := by
  refine ⟨h.1, fun hn => ?_⟩
  rcases h.2 with ⟨e, h0⟩ | ⟨g, cap, cur, hv, _, hg, hnc, _, hs, htake⟩
  · subst h0; simp at hn
  · cases hv
    refine ⟨g, 0, rfl, (Array.getElem?_eq_some_iff.1 hg).1, fun j hj => ?_⟩
    rw [Nat.zero_add]
    exact h.cellAt j hj
theorem rdF_own {W0 W' : World} {F : Nat → Prop} {R B k n c : Nat} {e : TypeId} {a : Option Addr} {xs : List Value} (h : W'.ownsRow B e k (.slice a n c) n xs) (hB : W0.heap.size ≤ B) (hR : R < W0.heap.size) : RdF W' (fun q => F q ∨ (W0.heap.size ≤ q ∧ q < W'.heap.size)) R a (n * k) xs :=
  ⟨own_rd h, fun hn => by
    rcases h.2 with ⟨e, h0⟩ | ⟨g, cap, cur, hv, hg1, hg, -⟩
    · subst h0; simp at hn
    · cases hv
      have hl : g < W'.heap.size := (Array.getElem?_eq_some_iff.1 hg).1
      exact ⟨g, 0, rfl, Or.inr ⟨by omega, hl⟩, by omega⟩⟩
theorem own_base {W : World} {B B' k n : Nat} {e : TypeId} {v : Value} {xs : List Value} (h : W.ownsRow B e k v n xs) (hB : B' ≤ B) : W.ownsRow B' e k v n xs := by
  refine ⟨h.1, ?_⟩
  rcases h.2 with h0 | ⟨g, cap, cur, e1, hg, r⟩
  · exact Or.inl h0
  · exact Or.inr ⟨g, cap, cur, e1, Nat.le_trans hB hg, r⟩
theorem gran_len (l : List Nat) : (l.flatMap fun p => (List.range 8).map fun j => 8 * p + j).length = l.length * 8 := by
  induction l with
  | nil => rfl
  | cons x r ih => rw [List.flatMap_cons, List.length_append, ih, List.length_cons, List.length_map, List.length_range]; omega
theorem mks_len {m : Mm} (h : Okm m) : m.mks.length ≤ 2048 := by
  have h1 := nodup_len (xs := m.mks) (ys := m.pgs.flatMap fun p => (List.range 8).map fun j => 8 * p + j) (h.mr.imp (fun hab e => by omega)) (fun x hx => by
    exact List.mem_flatMap.2 ⟨x / 8, h.ml x hx, List.mem_map.2 ⟨x % 8, List.mem_range.2 (by omega), by omega⟩⟩)
  rw [gran_len] at h1
  have := h.len
  have := h.bud
  omega
end Go.Proofs.Yteaididdamihlaa
