/- append of objects, to a row of one's own: GraphMore's list with one more. -/
import Derived.Test.YtcafommklmepgaaGrJ
import Derived.Test.YtcafommklmepgaaGrMb
import Derived.Deep.AppendSrc
import Derived.Deep.RegionHeld3
import Derived.Deep.DeepAppendWide
import Derived.Deep.MidRow
import Derived.WalkMore
namespace Go.Proofs.Ytcafommklmepgaa
set_option linter.unusedVariables false
set_option linter.unusedSimpArgs false
open Go.Joins Go.ChangeShapes Go.WideShapes Go.ChangeAt Go.RowKit Go.Deep

theorem infoObj : (Try.prog.info? 43).map (fun i => (i.zero, i.size, i.bytes)) = some (some (.agg #[.string ⟨#[]⟩, .slice none 0 0, .slice none 0 0, .slice none 0 0, .slice none 0 0, .slice none 0 0, .slice none 0 0]), 7, 160) := by kernel_rfl
theorem objsC_length (l : List Obj) : (objsC l).length = l.length * 7 := by
  induction l with
  | nil => rfl
  | cons o l ih =>
    have : (objC o).length = 7 := rfl
    simp only [objsC, List.flatMap_cons, List.length_append, List.length_cons] at ih ⊢
    omega
theorem objsC_one (l : List Obj) : ∀ u ∈ objsC l, u.oneCell' = true := by
  intro u hu
  simp only [objsC, List.mem_flatMap, objC, List.mem_cons, List.not_mem_nil, or_false] at hu
  obtain ⟨o, -, h⟩ := hu
  rcases h with rfl | rfl | rfl | rfl | rfl | rfl | rfl <;> rfl
theorem objsC_snoc (l : List Obj) (o : Obj) : objsC (l ++ [o]) = objsC l ++ objsC [o] := by simp [objsC, List.flatMap_append]
theorem rangeAt_below {w w' : World} {g : Nat} {cs : List Value} (h : w.rangeAt g 0 cs) (hg : g < w.heap.size) (hb : Below w.heap.size w w') : w'.rangeAt g 0 cs := fun j v hv => (hb.cell (p := ⟨g, 0 + j, none⟩) hg).trans (h j v hv)
/-- a row of one's own from B on, with room -/
structure Room (B : Nat) (w : World) (g m c : Nat) (l : List Obj) : Prop where
  len : l.length = m
  le : m ≤ c
  from_ : B ≤ g
  lt : g < w.heap.size
  cells : w.rangeAt g 0 (objsC l)
  there : w.there g 0 (c * 7)
theorem Room.below {B g m c : Nat} {w w' : World} {l : List Obj} (h : Room B w g m c l) (hb : Below w.heap.size w w') : Room B w' g m c l :=
  ⟨h.len, h.le, h.from_, Nat.lt_of_lt_of_le h.lt hb.size, rangeAt_below h.cells h.lt hb, fun j hj => ⟨by rw [hb.cell (p := ⟨g, 0 + j, none⟩) h.lt]; exact (h.there j hj).1, by rw [hb.frozen (p := ⟨g, 0 + j, none⟩) h.lt]; exact (h.there j hj).2⟩⟩
theorem range_of {w : World} {a : Option Addr} {l : List Obj} {c m : Nat} (h : RdO w a l) (hm : l.length = m) (hpos : 0 < m) : ∃ b off, a = some ⟨b, off, none⟩ ∧ ∀ j v, (objsC l)[j]? = some v → w.cell? ⟨b, off + j, none⟩ = some v := by
  obtain ⟨b, off, e, hc⟩ := h.1 (by omega)
  refine ⟨b, off, e, fun j v hj => ?_⟩
  have hjl : j < l.length * 7 := by rw [← objsC_length]; exact (List.getElem?_eq_some_iff.1 hj).1
  have hk : j / 7 < l.length := by omega
  have hr : j % 7 < 7 := Nat.mod_lt _ (by decide)
  have hjj : j = j / 7 * 7 + j % 7 := by omega
  have h2 := objsC_get l (j / 7) hk (j % 7) hr
  rw [← hjj, hj] at h2
  obtain ⟨h0, h1, h2', h3, h4, h5, h6⟩ := hc (j / 7) hk
  rw [hjj, ← Nat.add_assoc]
  generalize j % 7 = r at h2 hr ⊢
  rw [h2]
  match r, hr with
  | 0, _ => exact h0
  | 1, _ => exact h1
  | 2, _ => exact h2'
  | 3, _ => exact h3
  | 4, _ => exact h4
  | 5, _ => exact h5
  | 6, _ => exact h6
theorem room_new {W : World} {m c : Nat} {l : List Obj} {cs : List Value} {z : Value} {t : TypeId} (hz : z.cells.size = 7) (hl : l.length = m) (hc : m ≤ c) (hcs : cs = objsC l) :
    Room W.heap.size (W.alloc (.cells (cs.toArray ++ Builtin.zeroCells z.cells (c - m)) t)) W.heap.size m c l := by
  subst hcs
  have hlen := objsC_length l
  rw [hl] at hlen
  refine ⟨hl, hc, Nat.le_refl _, by simp, fun j v hj => ?_, fun j hj => ⟨?_, frozen_new _ _ _ _ _ rfl⟩⟩
  · have hjl : j < (objsC l).length := (List.getElem?_eq_some_iff.1 hj).1
    refine (boxed (Below.refl _ _) (0 + j)).trans ?_
    rw [Nat.zero_add, Array.getElem?_append_left (by simpa using hjl)]
    simpa using hj
  · rw [boxed (Below.refl _ _) (0 + j)]
    have hs : ((objsC l).toArray ++ Builtin.zeroCells z.cells (c - m)).size = c * 7 := by
      rw [Array.size_append, size_zeroCells, hz, List.size_toArray, hlen]
      omega
    rw [Array.getElem?_eq_getElem (by rw [hs]; omega)]
    rfl
theorem run_appO0 (w : World) (ty : TypeId) (B g : Nat) (am : Option Addr) (m cc : Nat) (l : List Obj) (hr : RdO w am l) (hlm : l.length = m) (hm : m ≤ 20) (hB : B ≤ w.heap.size) (hg0 : B ≤ g) (hg : g < w.heap.size) :
    ∃ g' c' w', (Builtin.append_ #[22, 22] ty #[.slice (some ⟨g, 0, none⟩) 0 0, .slice am m cc]).run Try.prog w = .ok (.slice (some ⟨g', 0, none⟩) m c') w' ∧ Room B w' g' m c' l ∧ Below w.heap.size w w' := by
  obtain ⟨i0, hi, hz0, hz1, hz2⟩ := info_parts infoObj
  rcases Nat.eq_zero_or_pos m with h0 | hpos
  · subst h0
    have hy : l = [] := List.eq_nil_of_length_eq_zero hlm
    subst hy
    have hs : Src Try.prog i0.size 22 (.slice am 0 cc) 0 [] w := by
      cases am with
      | none => exact Src.ofNil w Try.underlying22 cc
      | some ad => exact Src.ofSlice w Try.underlying22 ad 0 cc [] (by simp) (by simp) (by simp)
    have h := run_append_room_src w 22 22 ty 43 i0 Try.underlying22 hi g 0 0 0 (.slice am 0 cc) 0 [] hs (by omega) (by simp) (by simp)
    exact ⟨g, 0, w, h, ⟨rfl, Nat.le_refl _, hg0, hg, fun j v hj => by simp [objsC] at hj, fun j hj => absurd hj (by omega)⟩, Below.refl _ _⟩
  · obtain ⟨b, off, rfl, hc⟩ := range_of (c := cc) hr hlm hpos
    have hs : Src Try.prog i0.size 22 (.slice (some ⟨b, off, none⟩) m cc) m (objsC l) w := by
      refine Src.ofSlice w Try.underlying22 ⟨b, off, none⟩ m cc (objsC l) (by rw [hz1, objsC_length, hlm]) (fun j u hj => ?_) (objsC_one l)
      rw [Addr.add_mid]
      exact hc j u hj
    have hold : (Builtin.firstCells i0.size 0 (.slice (some ⟨g, 0, none⟩) 0 0)).run Try.prog w.drew = .ok ([] : List Value).toArray w.drew :=
      run_firstCells_some w.drew i0.size 0 ⟨g, 0, none⟩ 0 0 [] (by simp) (by simp)
    have h := run_append_grow_src w 22 22 ty 43 i0 (.agg #[.string ⟨#[]⟩, .slice none 0 0, .slice none 0 0, .slice none 0 0, .slice none 0 0, .slice none 0 0, .slice none 0 0]) Try.underlying22 hi hz0 (some ⟨g, 0, none⟩) 0 0 [] hold (.slice (some ⟨b, off, none⟩) m cc) m (objsC l) hs (by omega) (by omega)
      (growslice_fits_wide (by omega) (by rw [hz2]; omega))
    rw [Nat.zero_add, List.nil_append] at h
    have hroom := room_new (W := w.drew) (t := 43) (z := .agg #[.string ⟨#[]⟩, .slice none 0 0, .slice none 0 0, .slice none 0 0, .slice none 0 0, .slice none 0 0, .slice none 0 0]) (c := grownCap w m 0 43) rfl hlm (grownCap_ge _ _ _ _) rfl
    exact ⟨_, _, _, h, ⟨hroom.len, hroom.le, hB, hroom.lt, hroom.cells, hroom.there⟩, (Below.drew (Below.refl _ _)).alloc (Nat.le_refl _) _⟩
theorem below_cells {B g : Nat} {a : World} (hg : B ≤ g) : ∀ (vs : List Value) (o : Nat) (w : World), Below B a w → Below B a (w.setCells g o vs)
  | [], _, _, h => h
  | v :: vs, o, w, h => by
    rw [World.setCells]
    exact below_cells hg vs (o + 1) _ (h.setCell hg v)
theorem run_appO1 (w : World) (ty : TypeId) (B g h c : Nat) (m : Nat) (l : List Obj) (o : Obj) (hr : Room B w g m c l) (hm : m ≤ 20) (hB : B ≤ w.heap.size) (ho : w.rangeAt h 0 (objsC [o])) :
    ∃ g' c' w', (Builtin.append_ #[22, 22] ty #[.slice (some ⟨g, 0, none⟩) m c, .slice (some ⟨h, 0, none⟩) 1 1]).run Try.prog w = .ok (.slice (some ⟨g', 0, none⟩) (m + 1) c') w' ∧ w'.rangeAt g' 0 (objsC (l ++ [o])) ∧ Below B w w' := by
  obtain ⟨i0, hi, hz0, hz1, hz2⟩ := info_parts infoObj
  have hlen := objsC_length l
  rw [hr.len] at hlen
  have h7 : (objsC [o]).length = 7 := rfl
  have hs : Src Try.prog i0.size 22 (.slice (some ⟨h, 0, none⟩) 1 1) 1 (objsC [o]) w := by
    refine Src.ofSlice w Try.underlying22 ⟨h, 0, none⟩ 1 1 (objsC [o]) (by rw [hz1]; rfl) (fun j u hj => ?_) (objsC_one [o])
    rw [Addr.add_mid]
    exact ho j u hj
  rcases Nat.lt_or_ge m c with hmc | hmc
  · have hth : w.there g (m * 7) (objsC [o]).length := fun j hj => by
      have := hr.there (m * 7 + j) (by rw [h7] at hj; omega)
      rwa [Nat.zero_add] at this
    have hh := run_append_room_src w 22 22 ty 43 i0 Try.underlying22 hi g 0 m c (.slice (some ⟨h, 0, none⟩) 1 1) 1 (objsC [o]) hs (by omega)
      (fun j hj => by rw [hz1, Nat.zero_add]; exact (hth j hj).1) (fun j hj => by rw [hz1, Nat.zero_add]; exact (hth j hj).2)
    rw [hz1, Nat.zero_add] at hh
    refine ⟨_, _, _, hh, fun j v hj => ?_, below_cells hr.from_ _ _ _ (Below.refl _ _)⟩
    rw [objsC_snoc] at hj
    by_cases hlt : j < m * 7
    · rw [List.getElem?_append_left (by omega)] at hj
      exact World.rangeAt_setCells_apart hr.cells g (m * 7) (objsC [o]) (Or.inr (Or.inl (by omega))) j v hj
    · rw [List.getElem?_append_right (by omega), hlen] at hj
      have := World.rangeAt_setCells_same w g (m * 7) (objsC [o]) hth (j - m * 7) v hj
      rw [show m * 7 + (j - m * 7) = 0 + j by omega] at this
      exact this
  · have hcm : c = m := Nat.le_antisymm hmc hr.le
    subst hcm
    have hold : (Builtin.firstCells i0.size c (.slice (some ⟨g, 0, none⟩) c c)).run Try.prog w.drew = .ok (objsC l).toArray w.drew :=
      run_firstCells_some w.drew i0.size c ⟨g, 0, none⟩ c c (objsC l) (by rw [hz1]; exact hlen) (fun j v hj => by rw [Addr.add_mid]; exact hr.cells j v hj)
    have hh := run_append_grow_src w 22 22 ty 43 i0 (.agg #[.string ⟨#[]⟩, .slice none 0 0, .slice none 0 0, .slice none 0 0, .slice none 0 0, .slice none 0 0, .slice none 0 0]) Try.underlying22 hi hz0 (some ⟨g, 0, none⟩) c c (objsC l) hold (.slice (some ⟨h, 0, none⟩) 1 1) 1 (objsC [o]) hs (by omega) (by omega)
      (growslice_fits_wide (by omega) (by rw [hz2]; omega))
    have hroom := room_new (W := w.drew) (t := 43) (z := .agg #[.string ⟨#[]⟩, .slice none 0 0, .slice none 0 0, .slice none 0 0, .slice none 0 0, .slice none 0 0, .slice none 0 0]) (c := grownCap w (c + 1) c 43) (l := l ++ [o]) (m := c + 1) rfl (by simp [hr.len]) (grownCap_ge _ _ _ _) (objsC_snoc l o).symm
    exact ⟨_, _, _, hh, hroom.cells, (Below.drew (Below.refl _ _)).alloc hB _⟩
end Go.Proofs.Ytcafommklmepgaa
