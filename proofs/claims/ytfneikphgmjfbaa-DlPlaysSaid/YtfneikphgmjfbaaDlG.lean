/- A program's state, and the state that is being made: Begun: contract. -/
import Derived.Test.YtfneikphgmjfbaaDlF
namespace Go.Proofs.Ytfneikphgmjfbaa
set_option linter.unusedVariables false
set_option linter.unusedSimpArgs false
open Go.Joins Go.ChangeShapes Go.WideShapes Go.ChangeAt Go.RowKit Go.Deep

/-- where a call stands while it makes the next state: the state that came in, the next one's two rows -/
structure NextAt (w W : World) (u1 u2 v1 v2 : Value) (n1 n2 : Nat) (x1 x2 : List Int) : Prop where
  sc : W.cell? ⟨w.heap.size, 0, none⟩ = some u1 ∧ W.cell? ⟨w.heap.size, 1, none⟩ = some u2
  nc : W.cell? ⟨w.heap.size + 1, 0, none⟩ = some v1 ∧ W.cell? ⟨w.heap.size + 1, 1, none⟩ = some v2
  nf : ∀ j, W.frozen? ⟨w.heap.size + 1, j, none⟩ = false
  sz : w.heap.size + 2 ≤ W.heap.size
  own : OwnSt (w.heap.size + 2) W v1 v2 n1 n2 x1 x2
  bel : Below w.heap.size w W
theorem NextAt.below {w W W' : World} {u1 u2 v1 v2 : Value} {n1 n2 : Nat} {x1 x2 : List Int} (h : NextAt w W u1 u2 v1 v2 n1 n2 x1 x2) (hb : Below W.heap.size W W') : NextAt w W' u1 u2 v1 v2 n1 n2 x1 x2 := by
  have hz := h.sz
  have g : ∀ b j, b < w.heap.size + 2 → W'.cell? ⟨b, j, none⟩ = W.cell? ⟨b, j, none⟩ := fun b j hb' => hb.cell (p := ⟨b, j, none⟩) (by show b < _; omega)
  exact ⟨⟨(g _ _ (by omega)).trans h.sc.1, (g _ _ (by omega)).trans h.sc.2⟩, ⟨(g _ _ (by omega)).trans h.nc.1, (g _ _ (by omega)).trans h.nc.2⟩, fun j => (hb.frozen (p := ⟨w.heap.size + 1, j, none⟩) (by show w.heap.size + 1 < _; omega)).trans (h.nf j), Nat.le_trans hz hb.size, h.own.below hb, bTrans h.bel hb⟩
/-- what is laid in other blocks than the old ones and the two rows' stays -/
theorem own_far {w W W' : World} {v : Value} (hgr : W.grownBy W' v.ownBlock) (hv : ∀ g, v.ownBlock = some g → w.heap.size + 2 ≤ g) (b : Nat) (hb : b < w.heap.size + 2) (hz : w.heap.size + 2 ≤ W.heap.size) : W'.heap[b]? = W.heap[b]? :=
  hgr.block b (by omega) (fun e => by have := hv b e.symm; omega)
theorem kept_ne {W W' : World} {B : Nat} {v r : Value} {n : Nat} {xs : List Value} (h : W.ownsRow B 3 1 r n xs) (hgr : W.grownBy W' v.ownBlock) (hne : ∀ g, v.ownBlock = some g → r.ownBlock ≠ some g) : W'.ownsRow B 3 1 r n xs := by
  refine h.kept hgr ?_
  cases hr : r.ownBlock with
  | none => exact Or.inl rfl
  | some g => exact Or.inr fun e => hne g e.symm hr
theorem NextAt.app1 {w W W' : World} {u1 u2 v1 v2 v : Value} {n1 n2 n : Nat} {x1 x2 x : List Int} (h : NextAt w W u1 u2 v1 v2 n1 n2 x1 x2) (hgr : W.grownBy W' v1.ownBlock) (ho : W'.ownsRow (w.heap.size + 2) 3 1 v n (i64s x)) (hat : v.ownBlock = v1.ownBlock ∨ v.ownBlock = some W.heap.size) :
    NextAt w (W'.setCell ⟨w.heap.size + 1, 0, none⟩ v) u1 u2 v v2 n n2 x x2 := by
  have hz := h.sz
  have hlt := fun g hg => (h.own.1.lt g hg).1
  have hlt2 := fun g hg => (h.own.2.1.lt g hg).2
  have far := fun b hb => own_far (w := w) hgr hlt b hb hz
  have cel : ∀ b j, b < w.heap.size + 2 → W'.cell? ⟨b, j, none⟩ = W.cell? ⟨b, j, none⟩ := fun b j hb => World.cell?_of_block (far b hb)
  have hs := hgr.size
  refine ⟨⟨?_, ?_⟩, ⟨?_, ?_⟩, fun j => ?_, by simp; omega, ⟨?_, ?_, fun g hg h2 => ?_⟩, ?_⟩
  · exact (World.cell?_setCell_other _ _ _ _ (by simp)).trans ((cel _ _ (by omega)).trans h.sc.1)
  · exact (World.cell?_setCell_other _ _ _ _ (by simp)).trans ((cel _ _ (by omega)).trans h.sc.2)
  · exact World.cell?_setCell_same _ _ _ ((cel _ _ (by omega)).trans h.nc.1)
  · exact (World.cell?_setCell_other _ _ _ _ (by simp)).trans ((cel _ _ (by omega)).trans h.nc.2)
  · rw [World.frozen?_setCell]
    exact (World.frozen?_of_block (far _ (by show w.heap.size + 1 < _; omega))).trans (h.nf j)
  · exact own_kept_block ho fun g hg => Below.heap_setCell _ _ _ _ (by show g ≠ w.heap.size + 1; omega)
  · exact own_kept_block (kept_ne h.own.2.1 hgr h.own.2.2) fun g hg => Below.heap_setCell _ _ _ _ (by show g ≠ w.heap.size + 1; omega)
  · rcases hat with e | e
    · exact h.own.2.2 g (e ▸ hg) h2
    · rw [e] at hg; cases hg; have := hlt2 _ h2; omega
  · exact (grownB h.bel hgr (fun q hq => by have := hlt q hq; omega)).setCell (p := ⟨w.heap.size + 1, 0, none⟩) (by show w.heap.size ≤ w.heap.size + 1; omega) _
theorem NextAt.app2 {w W W' : World} {u1 u2 v1 v2 v : Value} {n1 n2 n : Nat} {x1 x2 x : List Int} (h : NextAt w W u1 u2 v1 v2 n1 n2 x1 x2) (hgr : W.grownBy W' v2.ownBlock) (ho : W'.ownsRow (w.heap.size + 2) 3 1 v n (i64s x)) (hat : v.ownBlock = v2.ownBlock ∨ v.ownBlock = some W.heap.size) :
    NextAt w (W'.setCell ⟨w.heap.size + 1, 1, none⟩ v) u1 u2 v1 v n1 n x1 x := by
  have hz := h.sz
  have hlt := fun g hg => (h.own.2.1.lt g hg).1
  have hlt2 := fun g hg => (h.own.1.lt g hg).2
  have far := fun b hb => own_far (w := w) hgr hlt b hb hz
  have cel : ∀ b j, b < w.heap.size + 2 → W'.cell? ⟨b, j, none⟩ = W.cell? ⟨b, j, none⟩ := fun b j hb => World.cell?_of_block (far b hb)
  have hs := hgr.size
  refine ⟨⟨?_, ?_⟩, ⟨?_, ?_⟩, fun j => ?_, by simp; omega, ⟨?_, ?_, fun g hg h2 => ?_⟩, ?_⟩
  · exact (World.cell?_setCell_other _ _ _ _ (by simp)).trans ((cel _ _ (by omega)).trans h.sc.1)
  · exact (World.cell?_setCell_other _ _ _ _ (by simp)).trans ((cel _ _ (by omega)).trans h.sc.2)
  · exact (World.cell?_setCell_other _ _ _ _ (by simp)).trans ((cel _ _ (by omega)).trans h.nc.1)
  · exact World.cell?_setCell_same _ _ _ ((cel _ _ (by omega)).trans h.nc.2)
  · rw [World.frozen?_setCell]
    exact (World.frozen?_of_block (far _ (by show w.heap.size + 1 < _; omega))).trans (h.nf j)
  · exact own_kept_block (kept_ne h.own.1 hgr fun g hg hg2 => h.own.2.2 g hg2 hg) fun g hg => Below.heap_setCell _ _ _ _ (by show g ≠ w.heap.size + 1; omega)
  · exact own_kept_block ho fun g hg => Below.heap_setCell _ _ _ _ (by show g ≠ w.heap.size + 1; omega)
  · rcases hat with e | e
    · exact h.own.2.2 g hg (e ▸ h2)
    · rw [e] at h2; cases h2; have := hlt2 _ hg; omega
  · exact (grownB h.bel hgr (fun q hq => by have := hlt q hq; omega)).setCell (p := ⟨w.heap.size + 1, 1, none⟩) (by show w.heap.size ≤ w.heap.size + 1; omega) _
/-- behind both cells were laid anew with what stands there -/
theorem NextAt.again {w W : World} {u1 u2 v1 v2 : Value} {n1 n2 : Nat} {x1 x2 : List Int} (h : NextAt w W u1 u2 v1 v2 n1 n2 x1 x2) : NextAt w ((W.setCell ⟨w.heap.size + 1, 0, none⟩ v1).setCell ⟨w.heap.size + 1, 1, none⟩ v2) u1 u2 v1 v2 n1 n2 x1 x2 :=
  (h.app1 ⟨rfl, rfl, rfl, Nat.le_refl _, fun _ _ _ => rfl⟩ h.own.1 (Or.inl rfl)).app2 ⟨rfl, rfl, rfl, Nat.le_refl _, fun _ _ _ => rfl⟩ (own_kept_block h.own.2.1 fun g hg => Below.heap_setCell _ _ _ _ (by show g ≠ w.heap.size + 1; omega)) (Or.inl rfl)
/-- behind the copies were laid there -/
theorem NextAt.start {w W : World} {u1 u2 x y v1 v2 : Value} {n1 n2 : Nat} {x1 x2 : List Int} {t t' : TypeId} (hb : Below (Two w u1 u2 x y t t').heap.size (Two w u1 u2 x y t t') W) (ho : OwnSt (Two w u1 u2 x y t t').heap.size W v1 v2 n1 n2 x1 x2) :
    NextAt w ((W.setCell ⟨w.heap.size + 1, 0, none⟩ v1).setCell ⟨w.heap.size + 1, 1, none⟩ v2) u1 u2 v1 v2 n1 n2 x1 x2 := by
  obtain ⟨a1, a2, -, a4, a5, a6⟩ := two_new hb
  have hs : (Two w u1 u2 x y t t').heap.size = w.heap.size + 2 := by unfold Two; rw [size_alloc, size_alloc]
  rw [hs] at ho
  have k := set2 v1 v2 a2.1 a2.2
  refine ⟨⟨?_, ?_⟩, k, fun j => ?_, by simpa using a5, own_set (own_set ho _ (by show w.heap.size + 1 < _; omega) _) _ (by show w.heap.size + 1 < _; omega) _, (a6.setCell (by show w.heap.size ≤ w.heap.size + 1; omega) _).setCell (by show w.heap.size ≤ w.heap.size + 1; omega) _⟩
  · exact (World.cell?_setCell_other _ _ _ _ (by simp)).trans ((World.cell?_setCell_other _ _ _ _ (by simp)).trans a1.1)
  · exact (World.cell?_setCell_other _ _ _ _ (by simp)).trans ((World.cell?_setCell_other _ _ _ _ (by simp)).trans a1.2)
  · rw [World.frozen?_setCell, World.frozen?_setCell]; exact a4 j
def BegunPost (w : World) (l : List Obj) (root : List UInt8) (e : Ending) (w' : World) : Prop :=
  ∃ a1 c1 a2 c2 s b x, e = .returned (.tuple #[.agg #[.slice a1 s.ld.length c1, .slice a2 s.op.length c2], .int .i64 x]) ∧ Ope l ⟨[], []⟩ root s b x ∧ RdSt w' a1 a2 s ∧ Below w.heap.size w w'
theorem begun_no {w w' : World} {l : List Obj} {root n : List UInt8} (h : closR l root = .inr n) (hb : Below w.heap.size w w') : BegunPost w l root (.returned (.tuple #[.agg #[.slice none 0 0, .slice none 0 0], .int .i64 130])) w' :=
  ⟨none, 0, none, 0, ⟨[], []⟩, [], 130, rfl, Or.inl ⟨⟨n, h⟩, rfl, rfl, rfl⟩, ⟨Rd.nil _ _, Rd.nil _ _⟩, hb⟩
theorem begun_yes {w w' : World} {l : List Obj} {root : List UInt8} {p : Nat} {b : List Nat} {a1 a2 : Option Addr} {c1 c2 n : Nat} (h : Beg l root p b) (hn : b.length = n) (h1 : Rd w' a1 n (i64s (ordZ b))) (h2 : Rd w' a2 1 (i64s (ordZ [p]))) (hb : Below w.heap.size w w') :
    BegunPost w l root (.returned (.tuple #[.agg #[.slice a1 n c1, .slice a2 1 c2], .int .i64 0])) w' := by
  subst hn
  refine ⟨a1, c1, a2, c2, ⟨b, [p]⟩, b, 0, rfl, Or.inr ⟨p, b, h, ?_, rfl, rfl⟩, ⟨h1, h2⟩, hb⟩
  exact (filter_all fun k _ => by simp).symm
theorem rd_set {W : World} {a : Option Addr} {n B : Nat} {xs : List Value} {p : Addr} {u : Value} (h : ∃ c, W.ownsRow B 3 1 (.slice a n c) n xs) (hp : p.block < B) : Rd (W.setCell p u) a n xs := by
  obtain ⟨c, h⟩ := h
  exact Rd.of_own (own_kept_block h fun g hg => Below.heap_setCell _ _ _ _ (by omega))
theorem own_one (w : World) (y : Int) : (w.alloc (.cells #[.int .i64 y] 3)).ownsRow w.heap.size 3 1 (.slice (some ⟨w.heap.size, 0, none⟩) 1 1) 1 (i64s [y]) := World.ownsRow_lit (base := w.heap.size) (e := 3) (size := 1) w #[.int .i64 y] 1 (Nat.le_refl _) (by decide) rfl
theorem own_two {B n : Nat} {W : World} {a : Option Addr} {c : Nat} {xs : List Value} (h : W.ownsRow B 3 1 (.slice a n c) n xs) (p : Addr) (hp : p.block < B) (u1 u2 : Value) (q : Addr) (hq : q.block < B) : Rd ((W.setCell p u1).setCell q u2) a n xs :=
  Rd.of_own (own_kept_block (own_kept_block h fun g hg => Below.heap_setCell _ _ _ _ (by omega)) fun g hg => Below.heap_setCell _ _ _ _ (by omega))
theorem keepA {W : World} {g f B : Nat} {v : Value} (h : W.cell? ⟨g, f, none⟩ = some v) (hne : g ≠ B) (u1 u2 : Value) : ((W.setCell ⟨B, 0, none⟩ u1).setCell ⟨B, 1, none⟩ u2).cell? ⟨g, f, none⟩ = some v := by
  have e : ∀ j, (⟨B, j, none⟩ : Addr) ≠ ⟨g, f, none⟩ := fun j q => hne (by injection q with q1; exact q1.symm)
  exact (World.cell?_setCell_other _ _ _ _ (e 1)).trans ((World.cell?_setCell_other _ _ _ _ (e 0)).trans h)
theorem keepB {W : World} {g f B : Nat} {v : Value} (h : W.cell? ⟨g, f, none⟩ = some v) (hne : g ≠ B) (u1 u2 : Value) (o : Go.Obj) : (((W.setCell ⟨B, 0, none⟩ u1).setCell ⟨B, 1, none⟩ u2).alloc o).cell? ⟨g, f, none⟩ = some v :=
  ((Below.refl _ _).alloc (Nat.le_refl _) o |>.cell (p := ⟨g, f, none⟩) (by simpa using heap_lt_of_cell h)).trans (keepA h hne u1 u2)
theorem ne_box {W : World} {g f B : Nat} {x : Int} {u0 u1 : Value} (hb : ∀ j, W.cell? ⟨B, j, none⟩ = #[u0, u1][j]?) (h : W.cell? ⟨g, f, none⟩ = some (.int .i64 x)) (h0 : ∀ y, u0 ≠ .int .i64 y) (h1 : ∀ y, u1 ≠ .int .i64 y) : g ≠ B := by
  intro e
  subst e
  rw [hb f] at h
  match f, h with
  | 0, h => exact h0 x (by simpa using h)
  | 1, h => exact h1 x (by simpa using h)
  | f + 2, h => simp at h
theorem set2B {W : World} {b : Nat} {u0 u1 : Value} (v0 v1 : Value) (h0 : W.cell? ⟨b, 0, none⟩ = some u0) (h1 : W.cell? ⟨b, 1, none⟩ = some u1) (o : Go.Obj) :
    (((W.setCell ⟨b, 0, none⟩ v0).setCell ⟨b, 1, none⟩ v1).alloc o).cell? ⟨b, 0, none⟩ = some v0 ∧ (((W.setCell ⟨b, 0, none⟩ v0).setCell ⟨b, 1, none⟩ v1).alloc o).cell? ⟨b, 1, none⟩ = some v1 := by
  have k := set2 v0 v1 h0 h1
  exact ⟨((Below.refl _ _).alloc (Nat.le_refl _) o |>.cell (p := ⟨b, 0, none⟩) (heap_lt_of_cell k.1)).trans k.1, ((Below.refl _ _).alloc (Nat.le_refl _) o |>.cell (p := ⟨b, 1, none⟩) (heap_lt_of_cell k.2)).trans k.2⟩
set_option maxRecDepth 100000 in
set_option maxHeartbeats 4000000 in
theorem begun_any (a : Option Addr) (l : List Obj) (c : Nat) (root : List UInt8) (w : World) (hl : RdO w a l) (hm : l.length ≤ 100) (hnm : Named l) (hroot : root.length ≤ maxLen) :
    Calls Try.prog 11 #[.slice a l.length c, .string ⟨root.toArray⟩] w (BegunPost w l root) := by
  have HL := Lib.hid hl
  have HCL := Lib.hid (fun W (hW : RdO W a l) => closure_any a l c root W hW (by omega) hnm hroot)
  have HBE := Lib.hid (fun b (ord : List Nat) d W (hW : RdO W a l) (hV : Rd W b ord.length (i64s (ordZ ord))) (hO : Ord l ord) => begin_any a l c b ord d W hW (by omega) hnm hV hO.2 (by have := hO.le; omega))
  clear hl hnm
  obtain ⟨m, hlm⟩ : ∃ m, l.length = m := ⟨_, rfl⟩
  rw [hlm] at hm HCL HBE ⊢
  have HLM := Lib.hid hlm
  clear hlm
  have hx : ∀ W', Below (w.alloc (.cells #[.slice none 0 0, .slice none 0 0] 28)).heap.size (w.alloc (.cells #[.slice none 0 0, .slice none 0 0] 28)) W' → (W'.cell? ⟨w.heap.size, 0, none⟩ = some (.slice none 0 0) ∧ W'.cell? ⟨w.heap.size, 1, none⟩ = some (.slice none 0 0)) ∧ (∀ j, W'.frozen? ⟨w.heap.size, j, none⟩ = false) ∧ w.heap.size + 1 ≤ W'.heap.size := fun W' hb =>
    ⟨⟨(boxed hb 0).trans rfl, (boxed hb 1).trans rfl⟩, fun j => (hb.frozen (p := ⟨w.heap.size, j, none⟩) (by simp)).trans (frozen_new _ _ _ _ _ rfl), by have := hb.size; rw [size_alloc] at this; exact this⟩
  have HX := Lib.hid hx
  clear hx
  cases hcr : closR l root with
  | inr nn =>
    have HCR := Lib.hid hcr
    clear hcr
    go_enter Try.func11, Try.ntmps11
    go_wp2_with fail
    refine (HCL.out _ (HL.out.below (bAlloc (Below.refl _ _) _))).mono ?_; rintro e w2 ⟨hb2, hp⟩
    rw [HCR.out] at hp
    subst hp
    have B2 := Lib.hid hb2
    obtain ⟨⟨x1, x2⟩, x3, x4⟩ := HX.out _ hb2
    have x5 := x3 0
    have x6 := x3 1
    clear hb2 x3
    go_wp2_with fail
    have kc := set2 (.slice none 0 0) (.slice none 0 0) x1 x2
    refine bodyPost_ret (v := .tuple #[.agg #[.slice none 0 0, .slice none 0 0], .int .i64 130]) ?_ rfl (begun_no HCR.out (((bTrans (bAlloc (Below.refl _ _) _) B2.out).setCell (Nat.le_refl _) _).setCell (Nat.le_refl _) _))
    simp [results, Try.results11, go_sem, kc.1, kc.2]
  | inl o =>
    obtain ⟨p, r, ho0, hf, hpl, hO, hmem⟩ := closR_fst hcr
    have HCR := Lib.hid hcr
    have HOO := Lib.hid ho0
    have HO := Lib.hid hO
    have hol := hO.le
    have hpos : 0 < o.length := by rw [ho0]; simp
    have hg0 := ordZ_get o 0 hpos
    rw [show o[0] = p by simp [ho0]] at hg0
    have HG0 := Lib.hid hg0
    rw [HLM.out] at hol
    clear hcr hO hmem hf ho0 hg0
    obtain ⟨n, hn⟩ : ∃ n, o.length = n := ⟨_, rfl⟩
    have HN := Lib.hid hn
    rw [hn] at hpos hol
    clear hn
    go_enter Try.func11, Try.ntmps11
    go_wp2_with fail
    refine (HCL.out _ (HL.out.below (bAlloc (Below.refl _ _) _))).mono ?_; rintro e w2 ⟨hb2, hp⟩
    rw [HCR.out] at hp
    obtain ⟨a2, c2, rfl, hr2⟩ := hp
    have HBE1 := Lib.hid (fun W (hW : RdO W a l) (hV : Rd W a2 o.length (i64s (ordZ o))) => HBE.out a2 o c2 W hW hV HO.out)
    rw [HN.out] at hr2 HBE1 ⊢
    have R2 := Lib.hid hr2
    obtain ⟨g2, f2, rfl, -, hc0⟩ := hr2.at_ hpos
    rw [HG0.out, Nat.add_zero] at hc0
    have B2 := Lib.hid (bTrans (bAlloc (Below.refl w.heap.size w) (.cells #[.slice none 0 0, .slice none 0 0] 28)) hb2)
    have HX2 := Lib.hid (fun W (hW : Below w2.heap.size w2 W) => HX.out W (bTrans hb2 hW))
    have HK2 := Lib.hid (fun W (hW : Below w2.heap.size w2 W) => (hW.cell (p := ⟨g2, f2, none⟩) (heap_lt_of_cell hc0)).trans hc0)
    have H2 := Lib.hid (Below.refl w2.heap.size w2)
    have hf2 : (0 : Int) < (n : Int) := by omega
    have hne := ne_box (fun j => boxed hb2 j) hc0 (by simp) (by simp)
    clear hb2 hr2
    go_wp2_with fail
    go_region_held3 (fun W => W.cell? ⟨g2, f2, none⟩ = some (.int .i64 (p : Int)))
      (first | exact HK2.out _ H2.out | exact HK2.out _ (Below.drew H2.out) | exact HK2.out _ H3.out | exact keepA (HK2.out _ H3.out) hne _ _ | exact keepB (HK2.out _ H3.out) hne _ _ _ | go_keep)
      (first
        | (go_at_call 30; (with_reducible refine (HBE1.out _ ((HL.out.below B2.out).below (Below.drew H2.out)) (R2.out.below (Below.drew H2.out))).mono ?_); rintro e w3 ⟨a3, c3, m3, o3, rfl, hv3, ho3, hg3, hb3⟩; have H3 := Lib.hid (bTrans (Below.drew H2.out) hb3); have O3 := Lib.hid ho3; have V3 := Lib.hid hv3; have L3 := Lib.hid hg3.le; obtain ⟨⟨x1, x2⟩, x3, x4⟩ := HX2.out _ H3.out; have x5 := x3 0; have x6 := x3 1; have x7 : w.heap.size < w3.heap.size := x4; clear ho3 hb3 hv3 hg3 x3)
        | (go_at_call 30; (with_reducible refine (HBE1.out _ ((HL.out.below B2.out).below (Below.drew (bAlloc H2.out _))) (R2.out.below (Below.drew (bAlloc H2.out _)))).mono ?_); rintro e w3 ⟨a3, c3, m3, o3, rfl, hv3, ho3, hg3, hb3⟩; have H3 := Lib.hid (bTrans (Below.drew (bAlloc H2.out _)) hb3); have HB3 := Lib.hid hb3; have O3 := Lib.hid ho3; have V3 := Lib.hid hv3; have L3 := Lib.hid hg3.le; obtain ⟨⟨x1, x2⟩, x3, x4⟩ := HX2.out _ H3.out; have x5 := x3 0; have x6 := x3 1; have x7 : w.heap.size < w3.heap.size := x4; clear ho3 hb3 hv3 hg3 x3))
    all_goals go_wp2_with fail
    · have kc := set2B (.slice a3 o3.length c3) (.slice (some ⟨w3.heap.size, 0, none⟩) 1 1) x1 x2 (.cells #[.int .i64 (p : Int)] 3)
      have hz2 : w.heap.size < w2.heap.size := by have := (HX2.out _ H2.out).2.2; omega
      refine bodyPost_ret (v := .tuple #[.agg #[.slice a3 o3.length c3, .slice (some ⟨w3.heap.size, 0, none⟩) 1 1], .int .i64 0]) ?_ rfl (begun_yes ⟨o, m3, HCR.out, by rw [HOO.out]; rfl, V3.out⟩ rfl ((own_two O3.out _ (by simpa using hz2) _ _ _ (by simpa using hz2)).below (bAlloc (Below.refl _ _) _)) (by simpa [ordZ] using rd_one ((w3.setCell ⟨w.heap.size, 0, none⟩ (.slice a3 o3.length c3)).setCell ⟨w.heap.size, 1, none⟩ (.slice (some ⟨w3.heap.size, 0, none⟩) 1 1)) (p : Int) 3) (bAlloc (((bTrans B2.out H3.out).setCell (by simp) _).setCell (by simp) _) _))
      simp [results, Try.results11, go_sem, kc.1, kc.2]
    · have kc := set2 (.slice a3 o3.length c3) (.slice (some ⟨w2.heap.size, 0, none⟩) 1 1) x1 x2
      have hz2 : w.heap.size < w2.heap.size := by have := (HX2.out _ H2.out).2.2; omega
      have hown : w3.ownsRow w2.heap.size 3 1 (.slice (some ⟨w2.heap.size, 0, none⟩) 1 1) 1 (i64s [(p : Int)]) := own_below (own_one w2 p) (below_of_drewN (n := 1) HB3.out)
      refine bodyPost_ret (v := .tuple #[.agg #[.slice a3 o3.length c3, .slice (some ⟨w2.heap.size, 0, none⟩) 1 1], .int .i64 0]) ?_ rfl (begun_yes ⟨o, m3, HCR.out, by rw [HOO.out]; rfl, V3.out⟩ rfl (own_two O3.out _ (by simp; omega) _ _ _ (by simp; omega)) (own_two hown _ hz2 _ _ _ hz2) (((bTrans B2.out H3.out).setCell (by simp) _).setCell (by simp) _))
      simp [results, Try.results11, go_sem, kc.1, kc.2]
end Go.Proofs.Ytfneikphgmjfbaa
