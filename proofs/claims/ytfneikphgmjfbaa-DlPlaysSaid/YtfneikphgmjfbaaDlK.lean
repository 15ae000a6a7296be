/- The program's Close: contract. -/
import Derived.Test.YtfneikphgmjfbaaDlJ
namespace Go.Proofs.Ytfneikphgmjfbaa
set_option linter.unusedVariables false
set_option linter.unusedSimpArgs false
open Go.Joins Go.ChangeShapes Go.WideShapes Go.ChangeAt Go.RowKit Go.Deep Go.Shelf

/-- three blocks, made one behind the other: the third has one cell -/
def Thr (w : World) (x1 x2 y1 y2 z : Value) (t t' t'' : TypeId) : World := ((w.alloc (.cells #[x1, x2] t)).alloc (.cells #[y1, y2] t')).alloc (.cells #[z] t'')
theorem thr_new {w W : World} {x1 x2 y1 y2 z : Value} {t t' t'' : TypeId} (hb : Below (Thr w x1 x2 y1 y2 z t t' t'').heap.size (Thr w x1 x2 y1 y2 z t t' t'') W) :
    Below (Two w x1 x2 y1 y2 t t').heap.size (Two w x1 x2 y1 y2 t t') W ∧ W.cell? ⟨w.heap.size + 1 + 1, 0, none⟩ = some z ∧ W.frozen? ⟨w.heap.size + 1 + 1, 0, none⟩ = false ∧ w.heap.size + 3 ≤ W.heap.size ∧ (Thr w x1 x2 y1 y2 z t t' t'').heap.size = w.heap.size + 3 ∧ (Two w x1 x2 y1 y2 t t').heap.size = w.heap.size + 2 := by
  have s2 : (Two w x1 x2 y1 y2 t t').heap.size = w.heap.size + 2 := by unfold Two; rw [size_alloc, size_alloc]
  have s3 : (Thr w x1 x2 y1 y2 z t t' t'').heap.size = w.heap.size + 3 := by unfold Thr; rw [size_alloc, size_alloc, size_alloc]
  have k := boxed (w := Two w x1 x2 y1 y2 t t') (cs := #[z]) (t := t'') hb
  rw [s2] at k
  have hz := hb.size
  rw [s3] at hz
  exact ⟨bTrans (bAlloc (Below.refl _ _) _) hb, (k 0).trans rfl, (hb.frozen (p := ⟨w.heap.size + 1 + 1, 0, none⟩) (by rw [s3]; simp)).trans (frozen_new _ _ _ _ _ s2.symm), hz, s3, s2⟩
/-- where the struck ones are gathered -/
structure EndAt (w W : World) (v1 v2 v : Value) (n : Nat) (x : List Int) : Prop where
  c : W.cell? ⟨w.heap.size + 1 + 1, 0, none⟩ = some v
  f : W.frozen? ⟨w.heap.size + 1 + 1, 0, none⟩ = false
  own : W.ownsRow (w.heap.size + 3) 3 1 v n (i64s x)
  ap : ∀ g, v.ownBlock = some g → v1.ownBlock ≠ some g ∧ v2.ownBlock ≠ some g
theorem leaves_plain {R : Ending → World → Prop} {fn : Func} {tmps : Array Value} {w : World} {v : Value} (h1 : (results fn tmps).run Try.prog w = .ok v w) (h2 : R (.returned v) w) : LeavesInM Fence.wide 9 Try.prog fn tmps R [] .returning w := ⟨v, h1, h2⟩
theorem last_no {k n : Int} (h : (k < 1 ∧ True) ∨ (1 ≤ k ∧ k = ((0 : Nat) : Int) ∧ k < n)) : k < 1 := by omega
theorem NextAt.set3 {w W : World} {u1 u2 v1 v2 : Value} {n1 n2 : Nat} {x1 x2 : List Int} (h : NextAt w W u1 u2 v1 v2 n1 n2 x1 x2) (u : Value) (g1 : ∀ g, v1.ownBlock = some g → w.heap.size + 3 ≤ g) (g2 : ∀ g, v2.ownBlock = some g → w.heap.size + 3 ≤ g) : NextAt w (W.setCell ⟨w.heap.size + 1 + 1, 0, none⟩ u) u1 u2 v1 v2 n1 n2 x1 x2 :=
  h.grow (grownBy_setCell' W _ u) fun g e => ⟨by cases e; omega, fun q => by cases e; have := g1 _ q; omega, fun q => by cases e; have := g2 _ q; omega⟩
set_option maxRecDepth 100000 in
set_option maxHeartbeats 4000000 in
theorem close_no (a : Option Addr) (l : List Obj) (c : Nat) (a1 a2 : Option Addr) (c1 c2 : Nat) (s : St) (name : List UInt8) (w : World) (hl : RdO w a l) (hm : l.length ≤ 100) (hnm : Named l) (hs : RdSt w a1 a2 s) (h1 : s.ld.length ≤ 1000) (h2 : s.op.length ≤ 1000) (hla : lastP s.op (findO l name) = 0) :
    Calls Try.prog 15 #[.slice a l.length c, .agg #[.slice a1 s.ld.length c1, .slice a2 s.op.length c2], .string ⟨name.toArray⟩] w (StepPost w (Clo l s name)) := by
  have HL := Lib.hid hl
  have HFI := Lib.hid (fun W (hW : RdO W a l) => find_any a l c name W hW (by omega))
  have HLA := Lib.hid (fun W (hW : Rd W a2 s.op.length (i64s (ordZ s.op))) => lastplace_any a2 s.op.length c2 (ordZ s.op) (findO l name) W hW (by omega))
  have HCO := Lib.hid (fun W (hW : Below w.heap.size w W) => copied_any a1 a2 c1 c2 s W (hs.below hW) (by omega) (by omega))
  have HR := Lib.hid (show Clo l s name s [] 210 from Or.inl ⟨hla, rfl, rfl, rfl⟩)
  have HRD := Lib.hid hs
  unfold lastP at hla
  rw [hla] at HLA
  clear hl hnm hs hla
  obtain ⟨n1, hn1⟩ : ∃ n, s.ld.length = n := ⟨_, rfl⟩
  obtain ⟨n2, hn2⟩ : ∃ n, s.op.length = n := ⟨_, rfl⟩
  obtain ⟨m, hlm⟩ : ∃ m, l.length = m := ⟨_, rfl⟩
  have HP := Lib.hid (fun (W : World) b1 d1 b2 d2 r1 r2 hb => step_of (w := w) (w' := W) (R := Clo l s name) (a1 := b1) (a2 := b2) (a3 := none) (c1 := d1) (c2 := d2) (c3 := 0) s [] HR.out hn1 hn2 rfl r1 r2 (Rd.nil _ _) hb)
  unfold CopPost at HCO
  unfold RdSt at HRD
  rw [hn1, hn2] at HCO HRD
  rw [hlm] at HFI
  rw [hn2] at HLA
  rw [hn1, hn2, hlm]
  clear hn1 hn2 hlm
  refine (callsIn_wide (n := 9)).1 ?_
  refine callsIn_of_wp_marks Try.func15 rfl trivial ?_ rfl
  simp only [Try.ntmps15, List.size_toArray, List.length_cons, List.length_nil, Nat.reduceAdd, Nat.reduceSub, Array.replicate_succ, Array.replicate_zero, List.push_toArray, List.append_toArray, List.nil_append, List.cons_append]
  refine wpIn_wide.2 ?_
  go_wp2_with fail
  refine (HCO.out _ (bAlloc (bAlloc (bAlloc (Below.refl _ _) _) _) _)).mono ?_; rintro e w1 ⟨b1, d1, b2, d2, rfl, ho1, hb1⟩
  obtain ⟨hb2, z1, z2, z3, s3, s2⟩ := thr_new (w := w) (W := w1) (x1 := .slice a1 n1 c1) (x2 := .slice a2 n2 c2) (y1 := .slice none 0 0) (y2 := .slice none 0 0) (z := .slice none 0 0) (t := 28) (t' := 28) (t'' := 26) hb1
  have ho2 : OwnSt (Two w (.slice a1 n1 c1) (.slice a2 n2 c2) (.slice none 0 0) (.slice none 0 0) 28 28).heap.size w1 (.slice b1 n1 d1) (.slice b2 n2 d2) n1 n2 (ordZ s.ld) (ordZ s.op) := OwnSt.mono ho1 (by rw [s2]; show _ ≤ (Thr w _ _ _ _ _ _ _ _).heap.size; rw [s3]; omega)
  obtain ⟨-, ⟨x3, x4⟩, -, x6, x7, -⟩ := two_new hb2
  have x8 := x6 0
  have x9 := x6 1
  have G1 := Lib.hid (fun g hg => show w.heap.size + 3 ≤ g by have := (ho1.1.lt g hg).1; change (Thr w _ _ _ _ _ _ _ _).heap.size ≤ g at this; rw [s3] at this; exact this)
  have G2 := Lib.hid (fun g hg => show w.heap.size + 3 ≤ g by have := (ho1.2.1.lt g hg).1; change (Thr w _ _ _ _ _ _ _ _).heap.size ≤ g at this; rw [s3] at this; exact this)
  have NA := Lib.hid (NextAt.start hb2 ho2)
  have Z := Lib.hid (And.intro z1 z2)
  clear ho1 hb1 x6 hb2 ho2 z1 z2 s3 s2
  go_wp2_with fail
  have Z2 := Lib.hid (show ((w1.setCell ⟨w.heap.size + 1, 0, none⟩ (.slice b1 n1 d1)).setCell ⟨w.heap.size + 1, 1, none⟩ (.slice b2 n2 d2)).cell? ⟨w.heap.size + 1 + 1, 0, none⟩ = some (.slice none 0 0) ∧ ((w1.setCell ⟨w.heap.size + 1, 0, none⟩ (.slice b1 n1 d1)).setCell ⟨w.heap.size + 1, 1, none⟩ (.slice b2 n2 d2)).frozen? ⟨w.heap.size + 1 + 1, 0, none⟩ = false ∧ w.heap.size + 3 ≤ ((w1.setCell ⟨w.heap.size + 1, 0, none⟩ (.slice b1 n1 d1)).setCell ⟨w.heap.size + 1, 1, none⟩ (.slice b2 n2 d2)).heap.size from ⟨(World.cell?_setCell_other _ _ _ _ (by simp)).trans ((World.cell?_setCell_other _ _ _ _ (by simp)).trans Z.out.1), by rw [World.frozen?_setCell, World.frozen?_setCell]; exact Z.out.2, by simpa using z3⟩)
  clear Z x3 x4 x7 x8 x9
  generalize (w1.setCell ⟨w.heap.size + 1, 0, none⟩ (.slice b1 n1 d1)).setCell ⟨w.heap.size + 1, 1, none⟩ (.slice b2 n2 d2) = W2 at *
  have hsc := NA.out.sc.2
  have HK2 := Lib.hid (fun W (hW : Below W2.heap.size W2 W) => (hW.cell (p := ⟨w.heap.size, 1, none⟩) (heap_lt_of_cell hsc)).trans hsc)
  have H2 := Lib.hid (Below.refl W2.heap.size W2)
  go_region_held3 (fun W => W.cell? ⟨w.heap.size, 1, none⟩ = some (.slice a2 n2 c2))
    (first | exact HK2.out _ H2.out | exact HK2.out _ (Below.drew H2.out) | exact HK2.out _ H5.out | go_keep)
    (first
      | (go_at_call 38; (with_reducible refine (HFI.out _ (HL.out.below (Below.drew NA.out.bel))).mono ?_); rintro e w5 ⟨rfl, hb5⟩; have H5 := Lib.hid (bTrans (Below.drew H2.out) hb5); clear hb5)
      | (go_at_call 37; (with_reducible refine (HLA.out _ (HRD.out.2.below (bTrans NA.out.bel H5.out))).mono ?_); rintro e w6 ⟨⟨k, rfl, hk⟩, rfl⟩; have HK := Lib.hid hk; clear hk))
  have hk := last_no HK.out
  have NA5 := Lib.hid (NA.out.below H5.out)
  obtain ⟨y1, y2⟩ := NA5.out.nc
  have y3 := NA5.out.nf 0
  have y4 := NA5.out.nf 1
  have y5 := ((H5.out.cell (p := ⟨w.heap.size + 1 + 1, 0, none⟩) (heap_lt_of_cell Z2.out.1)).trans Z2.out.1)
  have y6 := ((H5.out.frozen (p := ⟨w.heap.size + 1 + 1, 0, none⟩) (heap_lt_of_cell Z2.out.1)).trans Z2.out.2.1)
  clear HK hsc
  go_wp2_with fail
  have kn := NA5.out.again.set3 (.slice none 0 0) G1.out G2.out
  have kc := kn.nc
  have kz : (((w5.setCell ⟨w.heap.size + 1, 0, none⟩ (.slice b1 n1 d1)).setCell ⟨w.heap.size + 1, 1, none⟩ (.slice b2 n2 d2)).setCell ⟨w.heap.size + 1 + 1, 0, none⟩ (.slice none 0 0)).cell? ⟨w.heap.size + 1 + 1, 0, none⟩ = some (.slice none 0 0) := World.cell?_setCell_same _ _ _ ((World.cell?_setCell_other _ _ _ _ (by simp)).trans ((World.cell?_setCell_other _ _ _ _ (by simp)).trans y5))
  refine leaves_plain (v := .tuple #[.agg #[.slice b1 n1 d1, .slice b2 n2 d2], .slice none 0 0, .int .i64 210]) ?_ (HP.out _ _ _ _ _ (Rd.of_own kn.own.1) (Rd.of_own kn.own.2.1) kn.bel)
  simp [results, Try.results15, go_sem, kc.1, kc.2, kz]
end Go.Proofs.Ytfneikphgmjfbaa
