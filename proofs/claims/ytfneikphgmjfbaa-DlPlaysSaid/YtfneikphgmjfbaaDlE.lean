/- A state that shares no list; all that is needed; what is struck of a list: contracts. -/
import Derived.Test.YtfneikphgmjfbaaDlD
namespace Go.Proofs.Ytfneikphgmjfbaa
set_option linter.unusedVariables false
set_option linter.unusedSimpArgs false
open Go.Joins Go.ChangeShapes Go.WideShapes Go.ChangeAt Go.RowKit Go.Deep

/-- the two lists of a state, as they are read -/
def RdSt (w : World) (a1 a2 : Option Addr) (s : St) : Prop := Rd w a1 s.ld.length (i64s (ordZ s.ld)) ∧ Rd w a2 s.op.length (i64s (ordZ s.op))
theorem RdSt.below {w w' : World} {a1 a2 : Option Addr} {s : St} (h : RdSt w a1 a2 s) (hb : Below w.heap.size w w') : RdSt w' a1 a2 s := ⟨h.1.below hb, h.2.below hb⟩
/-- two rows of one's own, apart -/
def OwnSt (B : Nat) (w : World) (v1 v2 : Value) (n1 n2 : Nat) (x1 x2 : List Int) : Prop :=
  w.ownsRow B 3 1 v1 n1 (i64s x1) ∧ w.ownsRow B 3 1 v2 n2 (i64s x2) ∧ ∀ g, v1.ownBlock = some g → v2.ownBlock ≠ some g
theorem own_apart {B : Nat} {w1 w2 : World} {v1 v2 : Value} {n1 n2 : Nat} {x1 x2 : List Int} (hB : B ≤ w1.heap.size) (h1 : w1.ownsRow B 3 1 v1 n1 (i64s x1)) (hb : Below w1.heap.size w1 w2) (h2 : w2.ownsRow w1.heap.size 3 1 v2 n2 (i64s x2)) :
    w2.ownsRow B 3 1 v1 n1 (i64s x1) ∧ w2.ownsRow B 3 1 v2 n2 (i64s x2) ∧ ∀ g, v1.ownBlock = some g → v2.ownBlock ≠ some g :=
  ⟨own_below h1 hb, h2.mono hB, fun g hg h => by
    have a := (h1.lt g hg).2
    have b := (h2.lt g h).1
    omega⟩
def CopPost (w : World) (s : St) (e : Ending) (w' : World) : Prop :=
  ∃ a1 c1 a2 c2, e = .returned (.agg #[.slice a1 s.ld.length c1, .slice a2 s.op.length c2]) ∧ OwnSt w.heap.size w' (.slice a1 s.ld.length c1) (.slice a2 s.op.length c2) s.ld.length s.op.length (ordZ s.ld) (ordZ s.op) ∧ Below w.heap.size w w'
/-- two blocks of two cells each, made one behind the other -/
def Two (w : World) (x1 x2 y1 y2 : Value) (t t' : TypeId) : World := (w.alloc (.cells #[x1, x2] t)).alloc (.cells #[y1, y2] t')
theorem two_new {w W : World} {x1 x2 y1 y2 : Value} {t t' : TypeId} (hb : Below (Two w x1 x2 y1 y2 t t').heap.size (Two w x1 x2 y1 y2 t t') W) :
    (W.cell? ⟨w.heap.size, 0, none⟩ = some x1 ∧ W.cell? ⟨w.heap.size, 1, none⟩ = some x2) ∧ (W.cell? ⟨w.heap.size + 1, 0, none⟩ = some y1 ∧ W.cell? ⟨w.heap.size + 1, 1, none⟩ = some y2) ∧ (∀ j, W.frozen? ⟨w.heap.size, j, none⟩ = false) ∧ (∀ j, W.frozen? ⟨w.heap.size + 1, j, none⟩ = false) ∧ w.heap.size + 2 ≤ W.heap.size ∧ Below w.heap.size w W := by
  have s1 := size_alloc w (.cells #[x1, x2] t)
  have hb1 : Below (w.alloc (.cells #[x1, x2] t)).heap.size (w.alloc (.cells #[x1, x2] t)) W := bTrans (bAlloc (Below.refl _ _) _) hb
  have k := boxed (w := w.alloc (.cells #[x1, x2] t)) (cs := #[y1, y2]) (t := t') hb
  have hz := hb.size
  unfold Two at hz hb
  rw [s1] at k
  rw [size_alloc, s1] at hz
  refine ⟨⟨(boxed hb1 0).trans rfl, (boxed hb1 1).trans rfl⟩, ⟨(k 0).trans rfl, (k 1).trans rfl⟩, fun j => ?_, fun j => ?_, by omega, bTrans (bAlloc (Below.refl _ _) _) hb1⟩
  · exact (hb1.frozen (p := ⟨w.heap.size, j, none⟩) (by rw [s1]; simp)).trans (frozen_new _ _ _ _ _ rfl)
  · exact (hb.frozen (p := ⟨w.heap.size + 1, j, none⟩) (by rw [size_alloc, s1]; simp)).trans (frozen_new _ _ _ _ _ s1.symm)
theorem own_flip {B : Nat} {w : World} {v1 v2 : Value} {n1 n2 : Nat} {x1 x2 : List Int} (h : OwnSt B w v2 v1 n2 n1 x2 x1) : OwnSt B w v1 v2 n1 n2 x1 x2 := ⟨h.2.1, h.1, fun g h1 h2 => h.2.2 g h2 h1⟩
theorem own_set {B : Nat} {w : World} {v1 v2 : Value} {n1 n2 : Nat} {x1 x2 : List Int} (h : OwnSt B w v1 v2 n1 n2 x1 x2) (p : Addr) (hp : p.block < B) (u : Value) : OwnSt B (w.setCell p u) v1 v2 n1 n2 x1 x2 :=
  ⟨own_kept_block h.1 fun g hg => Below.heap_setCell _ _ _ _ (by omega), own_kept_block h.2.1 fun g hg => Below.heap_setCell _ _ _ _ (by omega), h.2.2⟩
theorem OwnSt.mono {B B' : Nat} {w : World} {v1 v2 : Value} {n1 n2 : Nat} {x1 x2 : List Int} (h : OwnSt B w v1 v2 n1 n2 x1 x2) (hB : B' ≤ B) : OwnSt B' w v1 v2 n1 n2 x1 x2 := ⟨h.1.mono hB, h.2.1.mono hB, h.2.2⟩
theorem OwnSt.below {B : Nat} {w w' : World} {v1 v2 : Value} {n1 n2 : Nat} {x1 x2 : List Int} (h : OwnSt B w v1 v2 n1 n2 x1 x2) (hb : Below w.heap.size w w') : OwnSt B w' v1 v2 n1 n2 x1 x2 := ⟨own_below h.1 hb, own_below h.2.1 hb, h.2.2⟩
theorem set2 {W : World} {b : Nat} {u0 u1 : Value} (v0 v1 : Value) (h0 : W.cell? ⟨b, 0, none⟩ = some u0) (h1 : W.cell? ⟨b, 1, none⟩ = some u1) :
    ((W.setCell ⟨b, 0, none⟩ v0).setCell ⟨b, 1, none⟩ v1).cell? ⟨b, 0, none⟩ = some v0 ∧ ((W.setCell ⟨b, 0, none⟩ v0).setCell ⟨b, 1, none⟩ v1).cell? ⟨b, 1, none⟩ = some v1 :=
  ⟨(World.cell?_setCell_other _ _ _ _ (by simp)).trans (World.cell?_setCell_same _ _ _ h0), World.cell?_setCell_same _ _ _ ((World.cell?_setCell_other _ _ _ _ (by simp)).trans h1)⟩
set_option maxRecDepth 100000 in
set_option maxHeartbeats 4000000 in
theorem copied_any (a1 a2 : Option Addr) (c1 c2 : Nat) (s : St) (w : World) (h : RdSt w a1 a2 s) (h1 : s.ld.length ≤ 1000000) (h2 : s.op.length ≤ 1000000) :
    Calls Try.prog 33 #[.agg #[.slice a1 s.ld.length c1, .slice a2 s.op.length c2]] w (CopPost w s) := by
  obtain ⟨n1, hn1⟩ : ∃ n, s.ld.length = n := ⟨_, rfl⟩
  obtain ⟨n2, hn2⟩ : ∃ n, s.op.length = n := ⟨_, rfl⟩
  have hx := fun W hb => two_new (w := w) (W := W) (x1 := .slice a1 n1 c1) (x2 := .slice a2 n2 c2) (y1 := .slice none 0 0) (y2 := .slice none 0 0) (t := 28) (t' := 28) hb
  have HC1 := Lib.hid (fun W (hW : Below (Two w (.slice a1 n1 c1) (.slice a2 n2 c2) (.slice none 0 0) (.slice none 0 0) 28 28).heap.size (Two w (.slice a1 n1 c1) (.slice a2 n2 c2) (.slice none 0 0) (.slice none 0 0) 28 28) W) => clone_any a1 s.ld.length c1 (ordZ s.ld) W (h.1.below (hx W hW).2.2.2.2.2) h1)
  have HC2 := Lib.hid (fun W (hW : Below (Two w (.slice a1 n1 c1) (.slice a2 n2 c2) (.slice none 0 0) (.slice none 0 0) 28 28).heap.size (Two w (.slice a1 n1 c1) (.slice a2 n2 c2) (.slice none 0 0) (.slice none 0 0) 28 28) W) => clone_any a2 s.op.length c2 (ordZ s.op) W (h.2.below (hx W hW).2.2.2.2.2) h2)
  clear h
  have HP := Lib.hid (show ∀ (w' : World) b1 d1 b2 d2, OwnSt w.heap.size w' (.slice b1 n1 d1) (.slice b2 n2 d2) n1 n2 (ordZ s.ld) (ordZ s.op) → Below w.heap.size w w' → CopPost w s (.returned (.agg #[.slice b1 n1 d1, .slice b2 n2 d2])) w' from fun w' b1 d1 b2 d2 ho hb => by
    subst hn1; subst hn2
    exact ⟨b1, d1, b2, d2, rfl, ho, hb⟩)
  rw [hn1] at h1 HC1 ⊢
  rw [hn2] at h2 HC2 ⊢
  have H0 := Lib.hid (Below.refl (Two w (.slice a1 n1 c1) (.slice a2 n2 c2) (.slice none 0 0) (.slice none 0 0) 28 28).heap.size (Two w (.slice a1 n1 c1) (.slice a2 n2 c2) (.slice none 0 0) (.slice none 0 0) 28 28))
  have HX := Lib.hid hx
  clear hx hn1 hn2
  unfold Two at HC1 HC2 HX H0
  go_enter Try.func33, Try.ntmps33
  go_wp2_with fail
  go_region_held3 (fun W => W.cell? ⟨w.heap.size, 0, none⟩ = some (.slice a1 n1 c1) ∧ W.cell? ⟨w.heap.size, 1, none⟩ = some (.slice a2 n2 c2))
    (first | exact (HX.out _ H0.out).1 | exact (HX.out _ (Below.drew H0.out)).1 | exact (HX.out _ H3.out).1 | exact (HX.out _ H4.out).1 | go_keep)
    (first
      | (go_at_call 48; (with_reducible refine (HC1.out _ (Below.drew H0.out)).mono ?_); rintro e w3 ⟨a3, c3, rfl, ho3, hb3⟩; have H3 := Lib.hid (bTrans (Below.drew H0.out) hb3); have O3 := Lib.hid ho3; have L3 := Lib.hid (Below.drew H0.out).size; clear ho3 hb3)
      | (go_at_call 48; (with_reducible refine (HC2.out _ (Below.drew H0.out)).mono ?_); rintro e w3 ⟨a3, c3, rfl, ho3, hb3⟩; have H3 := Lib.hid (bTrans (Below.drew H0.out) hb3); have O3 := Lib.hid ho3; have L3 := Lib.hid (Below.drew H0.out).size; clear ho3 hb3)
      | (go_at_call 48; (with_reducible refine (HC2.out _ H3.out).mono ?_); rintro e w4 ⟨a4, c4, rfl, ho4, hb4⟩; have H4 := Lib.hid (bTrans H3.out hb4); have O4 := Lib.hid (And.intro (own_apart H3.out.size (O3.out.mono L3.out) hb4 ho4) trivial); have X4 := HX.out _ H4.out; obtain ⟨⟨x1, x2⟩, ⟨x3, x4⟩, -, x5, x6, -⟩ := X4; have x7 := x5 0; have x8 := x5 1; clear ho4 hb4 x5)
      | (go_at_call 48; (with_reducible refine (HC1.out _ H3.out).mono ?_); rintro e w4 ⟨a4, c4, rfl, ho4, hb4⟩; have H4 := Lib.hid (bTrans H3.out hb4); have O4 := Lib.hid (And.intro (own_apart H3.out.size (O3.out.mono L3.out) hb4 ho4) (id trivial)); have X4 := HX.out _ H4.out; obtain ⟨⟨x1, x2⟩, ⟨x3, x4⟩, -, x5, x6, -⟩ := X4; have x7 := x5 0; have x8 := x5 1; clear ho4 hb4 x5))
  all_goals go_wp2_with fail
  all_goals first
    | (have kc := set2 (.slice a3 n1 c3) (.slice a4 n2 c4) x3 x4
       refine bodyPost_ret (v := .agg #[.slice a3 n1 c3, .slice a4 n2 c4]) ?_ rfl (HP.out _ _ _ _ _ ((own_set (own_set (B := ((w.alloc (.cells #[.slice a1 n1 c1, .slice a2 n2 c2] 28)).alloc (.cells #[.slice none 0 0, .slice none 0 0] 28)).heap.size) O4.out.1 _ (by simp) _) _ (by simp) _).mono (by simp; omega)) (((HX.out _ H4.out).2.2.2.2.2.setCell (by simp) _).setCell (by simp) _))
       simp [results, Try.results33, go_sem, kc.1, kc.2])
    | (have kc := set2 (.slice a4 n1 c4) (.slice a3 n2 c3) x3 x4
       refine bodyPost_ret (v := .agg #[.slice a4 n1 c4, .slice a3 n2 c3]) ?_ rfl (HP.out _ _ _ _ _ ((own_set (own_set (B := ((w.alloc (.cells #[.slice a1 n1 c1, .slice a2 n2 c2] 28)).alloc (.cells #[.slice none 0 0, .slice none 0 0] 28)).heap.size) (own_flip O4.out.1) _ (by simp) _) _ (by simp) _).mono (by simp; omega)) (((HX.out _ H4.out).2.2.2.2.2.setCell (by simp) _).setCell (by simp) _))
       simp [results, Try.results33, go_sem, kc.1, kc.2])
    | go_ways
end Go.Proofs.Ytfneikphgmjfbaa
