/- append to a new empty row, in a region that draws; the join behind such a region. -/
import Derived.Test.YtniefpdibmpngaaHasP
import Derived.Deep.AppendSrc
import Derived.Deep.RegionHeld3
import Derived.Deep.DeepAppendWide
import Derived.WalkMore
namespace Go.Proofs.Ytniefpdibmpngaa
set_option linter.unusedVariables false
set_option linter.unusedSimpArgs false
open Go.Joins Go.ChangeShapes Go.WideShapes Go.ChangeAt Go.RowKit Go.Deep

/-- a row whose cells lie in one block from B on that may be written -/
def RowAt (B : Nat) (w : World) (a : Option Addr) (n : Nat) (xs : List Int) : Prop :=
  Rd w a n (i64s xs) ∧ (0 < n → ∃ g, a = some ⟨g, 0, none⟩ ∧ B ≤ g ∧ g < w.heap.size ∧ ∀ j, w.frozen? ⟨g, j, none⟩ = false)
theorem RowAt.below {B : Nat} {w w' : World} {a : Option Addr} {n : Nat} {xs : List Int} (h : RowAt B w a n xs) (hb : Below w.heap.size w w') : RowAt B w' a n xs :=
  ⟨h.1.below hb, fun hn => by
    obtain ⟨g, e, h1, h2, h3⟩ := h.2 hn
    exact ⟨g, e, h1, Nat.lt_of_lt_of_le h2 hb.size, fun j => (hb.frozen (p := ⟨g, j, none⟩) h2).trans (h3 j)⟩⟩
theorem RowAt.mono {B B' : Nat} {w : World} {a : Option Addr} {n : Nat} {xs : List Int} (h : RowAt B w a n xs) (hB : B' ≤ B) : RowAt B' w a n xs :=
  ⟨h.1, fun hn => by
    obtain ⟨g, e, h1, h2⟩ := h.2 hn
    exact ⟨g, e, Nat.le_trans hB h1, h2⟩⟩
def Apart (a1 : Option Addr) (n1 : Nat) (a2 : Option Addr) (n2 : Nat) : Prop := 0 < n1 → 0 < n2 → ∀ g g', a1 = some ⟨g, 0, none⟩ → a2 = some ⟨g', 0, none⟩ → g ≠ g'
theorem Apart.symm {a1 a2 : Option Addr} {n1 n2 : Nat} (h : Apart a1 n1 a2 n2) : Apart a2 n2 a1 n1 := fun h1 h2 g g' e1 e2 => (h h2 h1 g' g e2 e1).symm
theorem RowAt.apart {B : Nat} {w7 W w8 : World} {a a' : Option Addr} {n n' : Nat} {xs xs' : List Int} (h : RowAt B w7 a n xs) (hb : Below w7.heap.size w7 W) (h' : RowAt W.heap.size w8 a' n' xs') : Apart a n a' n' := fun h1 h2 g g' e1 e2 => by
  obtain ⟨k, f, -, k2, -⟩ := h.2 h1
  obtain ⟨k', f', k3, -⟩ := h'.2 h2
  rw [e1] at f; rw [e2] at f'; cases f; cases f'
  have := hb.size
  omega
theorem run_app0 (w : World) (ty : TypeId) (g : Nat) (am : Option Addr) (m c : Nat) (ys : List Int) (hr : Rd w am m (i64s ys)) (hm : m ≤ 1000) :
    ∃ a' c' w', (Builtin.append_ #[31, 31] ty #[.slice (some ⟨g, 0, none⟩) 0 0, .slice am m c]).run Try.prog w = .ok (.slice a' m c') w' ∧ RowAt w.heap.size w' a' m ys ∧ Below w.heap.size w w' := by
  obtain ⟨i0, hi, hz0, hz1, hz2⟩ := info_parts infoInt
  rcases Nat.eq_zero_or_pos m with h0 | hpos
  · subst h0
    have hy : ys = [] := List.eq_nil_of_length_eq_zero (by have := hr.1; simpa [i64s] using this)
    subst hy
    have hs : Src Try.prog i0.size 31 (.slice am 0 c) 0 [] w := by
      cases am with
      | none => exact Src.ofNil w Try.underlying31 c
      | some ad => exact Src.ofSlice w Try.underlying31 ad 0 c [] (by simp) (by simp) (by simp)
    have h := run_append_room_src w 31 31 ty 3 i0 Try.underlying31 hi g 0 0 0 (.slice am 0 c) 0 [] hs (by omega) (by simp) (by simp)
    refine ⟨some ⟨g, 0, none⟩, 0, w, h, ⟨Rd.nil _ _, fun h => absurd h (by omega)⟩, Below.refl _ _⟩
  · obtain ⟨b, off, rfl, hlt, hc⟩ := hr.2 hpos
    have hlen : (i64s ys).length = m := hr.1
    have hs : Src Try.prog i0.size 31 (.slice (some ⟨b, off, none⟩) m c) m (i64s ys) w := by
      refine Src.ofSlice w Try.underlying31 ⟨b, off, none⟩ m c (i64s ys) (by rw [hz1, hlen, Nat.mul_one]) (fun j u hj => ?_) (fun u hu => ?_)
      · have hjm : j < m := by rw [← hlen]; exact (List.getElem?_eq_some_iff.1 hj).1
        have := hc j hjm
        rw [hj] at this
        rw [← this, Addr.add_lit]
      · simp only [i64s, List.mem_map] at hu
        obtain ⟨x, -, rfl⟩ := hu
        rfl
    have hold : (Builtin.firstCells i0.size 0 (.slice (some ⟨g, 0, none⟩) 0 0)).run Try.prog w.drew = .ok ([] : List Value).toArray w.drew :=
      run_firstCells_some w.drew i0.size 0 ⟨g, 0, none⟩ 0 0 [] (by simp) (by simp)
    have h := run_append_grow_src w 31 31 ty 3 i0 (.int .i64 0) Try.underlying31 hi hz0 (some ⟨g, 0, none⟩) 0 0 [] hold (.slice (some ⟨b, off, none⟩) m c) m (i64s ys) hs (by omega) (by omega)
      (growslice_fits_wide (by omega) (by rw [hz2]; omega))
    rw [Nat.zero_add, List.nil_append] at h
    refine ⟨_, _, _, h, ⟨⟨hlen, fun _ => ⟨w.heap.size, 0, rfl, by simp, fun k hk => ?_⟩⟩, fun _ => ⟨w.heap.size, rfl, Nat.le_refl _, by simp, fun j => frozen_new w.drew _ _ _ _ rfl⟩⟩, (Below.drew (Below.refl _ _)).alloc (Nat.le_refl _) _⟩
    have hb := boxed (w := w.drew) (cs := (i64s ys).toArray ++ Builtin.zeroCells (Value.int .i64 0).cells (grownCap w m 0 3 - m)) (t := 3) (Below.refl _ _) (0 + k)
    refine hb.trans ?_
    rw [Nat.zero_add, Array.getElem?_append_left (by simp [hlen]; exact hk)]
    simp
theorem step_app0 (w : World) {ops : Array Oper} {o : Oper} {a : Act} {K : Act → World → Prop} {Q : Exit → Act → World → Prop} {E : Prop} (hgd : o.guard = none) (s x : Operand) (ho : o.op = .call { callee := .builtin .append, args := #[s, x], argTypes := #[31, 31] })
    (g : Nat) (hs : a.eval s = .slice (some ⟨g, 0, none⟩) 0 0) (am : Option Addr) (m c : Nat) (ys : List Int) (hx : a.eval x = .slice am m c) (hr : Rd w am m (i64s ys)) (hm : m ≤ 1000)
    (h : ∀ a' c' w', RowAt w.heap.size w' a' m ys → Below w.heap.size w w' → K (a.put o.dst (.slice a' m c')) w') :
    if Region.wanted o (yielded ops a.tmps) = true then Oper.wp Try.prog o a w K Q else E := by
  have hw : Region.wanted o (yielded ops a.tmps) = true := by simp [Region.wanted, hgd]
  rw [if_pos hw]
  obtain ⟨a', c', w', hr, h2, h3⟩ := run_app0 w o.type g am m c ys hr hm
  unfold Oper.wp execOp
  simp only [ho, resolve, invoke, builtin, Sem.run_bind, Sem.run_pure, Result.andThen_ok, List.map_toArray, List.map_cons, List.map_nil, hs, hx, hr]
  exact h a' c' w' h2 h3
/-- where the walk stands behind the copy: the new table's box, its two rows, nothing else turned -/
def CopyC (W0 : World) (n m : Nat) (bz cz : List Int) (v : Value) (w : World) : Prop :=
  ∃ u a1 c1 a2 c2, v = .pointer (some ⟨u, 0, none⟩) ∧ Below W0.heap.size W0 w ∧ w.cell? ⟨u, 0, none⟩ = some (.slice a1 n c1) ∧ w.cell? ⟨u, 1, none⟩ = some (.slice a2 m c2) ∧
    RowAt W0.heap.size w a1 n bz ∧ RowAt W0.heap.size w a2 m cz ∧ Apart a1 n a2 m
def After (C : Value → World → Prop) (a : Act) (e : Exit) (a' : Act) (w' : World) : Prop :=
  e = .normal ∧ ∃ v45 v46 v47 v48 v49 v50 v51 v52 v53 v12, a' = ((((((((((a.put (some 45) v45).put (some 46) v46).put (some 47) v47).put (some 48) v48).put (some 49) v49).put (some 50) v50).put (some 51) v51).put (some 52) v52).put (some 53) v53).put (some 12) v12) ∧ C v12 w'
theorem after_of {C : Value → World → Prop} {a a' : Act} {w' : World} {v45 v46 v47 v48 v49 v50 v51 v52 v53 v12 : Value} (hC : C v12 w') (ha : a' = ((((((((((a.put (some 45) v45).put (some 46) v46).put (some 47) v47).put (some 48) v48).put (some 49) v49).put (some 50) v50).put (some 51) v51).put (some 52) v52).put (some 53) v53).put (some 12) v12)) : After C a .normal a' w' := ⟨rfl, _, _, _, _, _, _, _, _, _, _, ha, hC⟩
theorem region_join {P : Program} {c : Code} {Q : Exit → Act → World → Prop} {a : Act} {w : World} (C : Value → World → Prop) (h1 : c.wp P (After C a) a w)
    (h2 : ∀ v45 v46 v47 v48 v49 v50 v51 v52 v53 v12 w', C v12 w' → Q .normal ((((((((((a.put (some 45) v45).put (some 46) v46).put (some 47) v47).put (some 48) v48).put (some 49) v49).put (some 50) v50).put (some 51) v51).put (some 52) v52).put (some 53) v53).put (some 12) v12) w') : c.wp P Q a w :=
  Code.wp_mono (fun e a' w' ⟨he, _, _, _, _, _, _, _, _, _, _, ha, hC⟩ => by subst he; subst ha; exact h2 _ _ _ _ _ _ _ _ _ _ _ hC) h1
theorem row_ne {B u : Nat} {X : World} {a a' : Option Addr} {n k c : Nat} {xs : List Int} (h : RowAt B X a n xs) (h0 : X.cell? ⟨u, 0, none⟩ = some (.slice a' k c)) (g : Nat) (hn : 0 < n) (e : a = some ⟨g, 0, none⟩) : g ≠ u := by
  rintro rfl
  obtain ⟨b, off, e2, -, hc⟩ := h.1.2 hn
  rw [e] at e2; cases e2
  have h1 := hc 0 hn
  rw [h0] at h1
  obtain ⟨x, hx⟩ : ∃ x, xs[0]? = some x := by
    have : xs.length = n := by rw [← i64s_length]; exact h.1.1
    exact ⟨xs[0], List.getElem?_eq_getElem _⟩
  simp [i64s, hx] at h1
theorem RowAt.set {B u j : Nat} {X : World} {a a' : Option Addr} {n k c : Nat} {xs : List Int} {v : Value} (h : RowAt B X a n xs) (h0 : X.cell? ⟨u, 0, none⟩ = some (.slice a' k c)) : RowAt B (X.setCell ⟨u, j, none⟩ v) a n xs := by
  refine ⟨⟨h.1.1, fun hn => ?_⟩, fun hn => ?_⟩
  · obtain ⟨g, e, h1, h2, h3⟩ := h.2 hn
    have hne := row_ne h h0 g hn e
    obtain ⟨b, off, e2, hl, hc⟩ := h.1.2 hn
    rw [e] at e2; cases e2
    exact ⟨g, 0, e, by simpa using hl, fun k hk => (World.cell?_setCell_other _ _ _ _ (by simp [hne])).trans (hc k hk)⟩
  · obtain ⟨g, e, h1, h2, h3⟩ := h.2 hn
    exact ⟨g, e, h1, by simpa using h2, fun j => by simpa using h3 j⟩
theorem rd_set {B g k : Nat} {X : World} {n : Nat} {xs : List Int} (v : Int) (h : RowAt B X (some ⟨g, 0, none⟩) n xs) (hk : k < n) : Rd (X.setCell ⟨g, k, none⟩ (.int .i64 v)) (some ⟨g, 0, none⟩) n (i64s (xs.set k v)) := by
  refine ⟨by simpa [i64s] using h.1.1, fun hn => ?_⟩
  obtain ⟨b, off, e2, hl, hc⟩ := h.1.2 hn
  cases e2
  refine ⟨g, 0, rfl, by simpa using hl, fun j hj => ?_⟩
  rw [Nat.zero_add]
  have hcj := hc j hj
  rw [Nat.zero_add] at hcj
  have hlen : xs.length = n := by rw [← i64s_length]; exact h.1.1
  by_cases e : k = j
  · subst e
    have hck := hc k hk
    rw [Nat.zero_add] at hck
    have hsome : (i64s xs)[k]? = some (.int .i64 xs[k]) := by simp [i64s, List.getElem?_eq_getElem (show k < xs.length by omega)]
    rw [hsome] at hck
    refine (World.cell?_setCell_same _ _ _ hck).trans ?_
    show _ = (List.map _ (xs.set k v))[k]?
    rw [List.getElem?_map, List.getElem?_set_self (by omega)]
    rfl
  · refine (World.cell?_setCell_other _ _ _ _ (by first | (simp; done) | (simp; omega))).trans (hcj.trans ?_)
    simp [i64s, List.getElem?_set_ne e]
theorem rd_apart {B' g k : Nat} {X : World} {n m : Nat} {a : Option Addr} {ys : List Int} {v : Value} (h : RowAt B' X a m ys) (hn : 0 < n) (hd : Apart (some ⟨g, 0, none⟩) n a m) : Rd (X.setCell ⟨g, k, none⟩ v) a m (i64s ys) := by
  refine ⟨h.1.1, fun hm => ?_⟩
  obtain ⟨b, off, e2, hl, hc⟩ := h.1.2 hm
  obtain ⟨g', e, -⟩ := h.2 hm
  have hne := hd hn hm g g' rfl e
  rw [e] at e2; cases e2
  exact ⟨_, _, e, by simpa using hl, fun j hj => (World.cell?_setCell_other _ _ _ _ (by first | (simp; done) | (simp; intro q; exact absurd q.symm hne) | (simp; intro q; exact absurd q hne))).trans (hc j hj)⟩
theorem row_cell {B g k : Nat} {X : World} {n : Nat} {xs : List Int} (h : RowAt B X (some ⟨g, 0, none⟩) n xs) (hk : k < n) (hl : k < xs.length) : X.cell? ⟨g, k, none⟩ = some (.int .i64 xs[k]) := by
  obtain ⟨b, off, e2, -, hc⟩ := h.1.2 (by omega)
  cases e2
  have := hc k hk
  rw [Nat.zero_add] at this
  rw [this]
  simp [i64s, List.getElem?_eq_getElem hl]
theorem set_same (xs : List Int) (k : Nat) (hk : k < xs.length) (v : Int) : decide (xs.set k v = xs) = (xs[k] == v) := by
  by_cases e : xs[k] = v
  · subst e
    rw [List.set_getElem_self]
    simp
  · have : xs.set k v ≠ xs := fun h => e (by have := List.getElem_set_self (l := xs) (i := k) (a := v) (by simpa using hk); simpa [h] using this)
    rw [decide_eq_false this]
    exact (beq_eq_false_iff_ne.2 e).symm
theorem nil_is (xs : List Int) : decide (([] : List Int) = xs) = ((xs.length : Int) == 0) := by
  cases xs with
  | nil => rfl
  | cons x r =>
    rw [decide_eq_false (by simp)]
    exact (beq_eq_false_iff_ne.2 (by rw [List.length_cons]; omega)).symm
theorem sz_drew (w : World) : w.drew.heap.size = w.heap.size := rfl
theorem undrew {B : Nat} {w w' : World} (h : Below B w.drew w') : Below B w w' := (Below.drew (Below.refl _ _)).trans h
theorem third_new {V w6 : World} {cs : Array Value} {t : TypeId} {u : Nat} (h : Below (V.alloc (.cells cs t)).heap.size (V.alloc (.cells cs t)) w6) (hu : V.heap.size = u) : (∀ j, w6.cell? ⟨u, j, none⟩ = cs[j]?) ∧ (∀ j, w6.frozen? ⟨u, j, none⟩ = false) ∧ u < w6.heap.size := by
  subst hu
  refine ⟨fun j => boxed h j, fun j => (h.frozen (p := ⟨V.heap.size, j, none⟩) (by simp)).trans (frozen_new _ _ _ _ _ rfl), ?_⟩
  have := h.size
  rw [size_alloc] at this
  omega
theorem copy_leaf {W0 X : World} {u n m : Nat} {bz cz : List Int} {a1 a2 z0 z1 : Option Addr} {c1 c2 k0 k1 d0 d1 : Nat} (hB : Below W0.heap.size W0 X) (hu : W0.heap.size ≤ u) (h0 : X.cell? ⟨u, 0, none⟩ = some (.slice z0 k0 d0)) (h1 : X.cell? ⟨u, 1, none⟩ = some (.slice z1 k1 d1))
    (hb : RowAt W0.heap.size X a1 n bz) (hc : RowAt W0.heap.size X a2 m cz) (hd : Apart a1 n a2 m) : CopyC W0 n m bz cz (.pointer (some ⟨u, 0, none⟩)) ((X.setCell ⟨u, 0, none⟩ (.slice a1 n c1)).setCell ⟨u, 1, none⟩ (.slice a2 m c2)) := by
  have e0 : (X.setCell ⟨u, 0, none⟩ (.slice a1 n c1)).cell? ⟨u, 0, none⟩ = some (.slice a1 n c1) := World.cell?_setCell_same _ _ _ h0
  have e1 : (X.setCell ⟨u, 0, none⟩ (.slice a1 n c1)).cell? ⟨u, 1, none⟩ = some (.slice z1 k1 d1) := (World.cell?_setCell_other _ _ _ _ (by simp)).trans h1
  exact ⟨u, a1, c1, a2, c2, rfl, (hB.setCell hu _).setCell hu _, (World.cell?_setCell_other _ _ _ _ (by simp)).trans e0, World.cell?_setCell_same _ _ _ e1, (hb.set h0).set e0, (hc.set h0).set e0, hd⟩
theorem copy_leaf2 {W0 X : World} {n m : Nat} {bz cz : List Int} {a1 a2 : Option Addr} {c1 c2 : Nat} {t : TypeId} (hB : Below W0.heap.size W0 X)
    (hb : RowAt W0.heap.size X a1 n bz) (hc : RowAt W0.heap.size X a2 m cz) (hd : Apart a1 n a2 m) : CopyC W0 n m bz cz (.pointer (some ⟨X.heap.size, 0, none⟩)) (X.alloc (.cells #[.slice a1 n c1, .slice a2 m c2] t)) :=
  ⟨X.heap.size, a1, c1, a2, c2, rfl, bAlloc hB _, (boxed (Below.refl _ _) 0).trans rfl, (boxed (Below.refl _ _) 1).trans rfl, hb.below (bAlloc (Below.refl _ _) _), hc.below (bAlloc (Below.refl _ _) _), hd⟩
end Go.Proofs.Ytniefpdibmpngaa
