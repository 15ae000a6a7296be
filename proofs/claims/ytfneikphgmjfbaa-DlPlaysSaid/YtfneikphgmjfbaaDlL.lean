/- The program's Close, where one is closed: contract. -/
import Derived.Test.YtfneikphgmjfbaaDlK
namespace Go.Proofs.Ytfneikphgmjfbaa
set_option linter.unusedVariables false
set_option linter.unusedSimpArgs false
open Go.Joins Go.ChangeShapes Go.WideShapes Go.ChangeAt Go.RowKit Go.Deep Go.Shelf
attribute [local go_sem] Oper.semAt_some

/-- the box of the struck ones -/
def EndBox (w W : World) (v : Value) : Prop := W.cell? ⟨w.heap.size + 1 + 1, 0, none⟩ = some v ∧ W.frozen? ⟨w.heap.size + 1 + 1, 0, none⟩ = false ∧ w.heap.size + 3 ≤ W.heap.size
theorem EndBox.grown {w W W' : World} {v : Value} {r : Option Nat} (h : EndBox w W v) (hg : W.grownBy W' r) (hr : ∀ g, r = some g → w.heap.size + 3 ≤ g) : EndBox w W' v := by
  have e : W'.heap[w.heap.size + 1 + 1]? = W.heap[w.heap.size + 1 + 1]? := hg.block _ (by have := h.2.2; omega) (fun e => by have := hr _ e.symm; omega)
  exact ⟨(World.cell?_of_block e).trans h.1, (World.frozen?_of_block e).trans h.2.1, Nat.le_trans h.2.2 hg.size⟩
theorem EndBox.below {w W W' : World} {v : Value} (h : EndBox w W v) (hb : Below W.heap.size W W') : EndBox w W' v := h.grown (r := none) ⟨hb.os, hb.tape, hb.output, hb.size, fun k hk _ => hb.block k hk⟩ (fun g e => by cases e)
theorem EndBox.set {w W : World} {v : Value} (h : EndBox w W v) (b j : Nat) (hb : b ≠ w.heap.size + 1 + 1) (u : Value) : EndBox w (W.setCell ⟨b, j, none⟩ u) v :=
  ⟨(World.cell?_setCell_other _ _ _ _ (fun e => hb (by injection e))).trans h.1, by rw [World.frozen?_setCell]; exact h.2.1, by simpa using h.2.2⟩
theorem ordZ_erase (op : List Nat) (k : Nat) : (ordZ op).eraseIdx k = ordZ (op.eraseIdx k) := by
  unfold ordZ
  rw [List.eraseIdx_eq_take_drop_succ, List.eraseIdx_eq_take_drop_succ, List.map_append, List.map_take, List.map_drop]
theorem last_yes {k : Int} {K n : Nat} (h : (k < 1 ∧ K = 0) ∨ (1 ≤ k ∧ k = (K : Int) ∧ k < (n : Int))) (hK : 0 < K) : k = (K : Int) ∧ K < n := by omega
/-- what the loop has gathered -/
def gat (nd : List Nat) (pre : List (Int × Int)) : List Int := (pre.map fun x => x.2).filter fun x => !(ordZ nd).contains x
theorem gat_snoc (nd : List Nat) (pre : List (Int × Int)) (x : Int × Int) : gat nd (pre ++ [x]) = gat nd pre ++ (if (ordZ nd).contains x.2 = true then [] else [x.2]) := by
  unfold gat
  rw [List.map_append, List.filter_append]
  congr 1
  by_cases h : (ordZ nd).contains x.2 = true
  · rw [if_pos h]; simp [h] at h ⊢; exact h
  · rw [if_neg h]; simp at h ⊢; exact h
theorem NextAt.kb {w W W' : World} {n X : Nat} {u1 u2 v1 v2 : Value} {n1 n2 : Nat} {x1 x2 : List Int} (h : NextAt w W u1 u2 v1 v2 n1 n2 x1 x2) (hk : KB n X W W') (hn : W.heap.size = n) (hX : X = w.heap.size + 1 + 1) (g1 : ∀ g, v1.ownBlock = some g → w.heap.size + 3 ≤ g) (g2 : ∀ g, v2.ownBlock = some g → w.heap.size + 3 ≤ g) : NextAt w W' u1 u2 v1 v2 n1 n2 x1 x2 := by
  refine h.grow (r := some X) ⟨hk.os, hk.tape, hk.output, hk.size, fun b hb hne => hk.block b (by omega) (fun e => hne (by rw [e]))⟩ (fun g e => ⟨by cases e; omega, fun q => by cases e; have := g1 _ q; omega, fun q => by cases e; have := g2 _ q; omega⟩)
theorem own_keptrow {W W' : World} {B : Nat} {v : Value} {k : Nat} {xs : List Value} {row : Option Nat} (h : W.ownsRow B 3 1 v k xs) (hg : W.grownBy W' row) (hr : ∀ r, row = some r → ∃ o : Go.Obj, W.heap[r]? = some o ∧ o.isCells = false) : W'.ownsRow B 3 1 v k xs := by
  refine h.kept hg ?_
  rcases h.2 with ⟨rfl, _⟩ | ⟨g, cap, cur, rfl, _, hgb, _⟩
  · exact .inl rfl
  · refine .inr fun e' => ?_
    obtain ⟨o, ho, hc⟩ := hr g e'.symm
    rw [hgb] at ho
    cases ho
    cases hc
theorem own_isCells {W : World} {B : Nat} {v : Value} {k : Nat} {xs : List Value} (h : W.ownsRow B 3 1 v k xs) (j : Nat) (o : Go.Obj) (e : v.ownBlock = some j) (ho : W.heap[j]? = some o) : o.isCells = true := by
  rcases h.2 with ⟨rfl, _⟩ | ⟨g, cap, cur, rfl, _, hgb, _⟩
  · cases e
  · cases e
    rw [hgb] at ho
    cases ho
    rfl
theorem own_kb {W0 W : World} {B X : Nat} {v : Value} {k : Nat} {xs : List Value} (h : W0.ownsRow B 3 1 v k xs) (hk : KB W0.heap.size X W0 W) (hx : ∀ g, v.ownBlock = some g → g ≠ X) : W.ownsRow B 3 1 v k xs := by
  refine h.kept (w' := W) (row := some X) ⟨hk.os, hk.tape, hk.output, hk.size, fun b hb hne => hk.block b hb (fun e => hne (by rw [e]))⟩ ?_
  cases hv : v.ownBlock with
  | none => exact .inl rfl
  | some g => exact .inr fun e => hx g hv (by cases e; rfl)
abbrev Thr3 (W : World) (B : Nat) (u0 u1 u2 : Value) : Prop := W.cell? ⟨B, 0, none⟩ = some u0 ∧ W.cell? ⟨B, 1, none⟩ = some u1 ∧ W.cell? ⟨B + 1, 0, none⟩ = some u2
theorem keep3D {W : World} {B : Nat} {u0 u1 u2 : Value} (h : Thr3 W B u0 u1 u2) : Thr3 W.drew B u0 u1 u2 := h
theorem keep3A {W : World} {B : Nat} {u0 u1 u2 : Value} (h : Thr3 W B u0 u1 u2) : Thr3 ((W.setCell ⟨B, 0, none⟩ u0).setCell ⟨B, 1, none⟩ u1) B u0 u1 u2 :=
  ⟨(set2 u0 u1 h.1 h.2.1).1, (set2 u0 u1 h.1 h.2.1).2, (World.cell?_setCell_other _ _ _ _ (by simp)).trans ((World.cell?_setCell_other _ _ _ _ (by simp)).trans h.2.2)⟩
theorem keep3B {W : World} {B : Nat} {u0 u1 u2 : Value} (h : Thr3 W B u0 u1 u2) : Thr3 (W.setCell ⟨B + 1, 0, none⟩ u2) B u0 u1 u2 :=
  ⟨(World.cell?_setCell_other _ _ _ _ (by simp)).trans h.1, (World.cell?_setCell_other _ _ _ _ (by simp)).trans h.2.1, World.cell?_setCell_same _ _ _ h.2.2⟩
theorem clo_fin {l : List Obj} {s : St} {name : List UInt8} {K : Nat} {nd : List Nat} (hK : lastP s.op (findO l name) = K) (h0 : 0 < K) (hm : ∀ j, j ∈ nd ↔ ∃ p ∈ s.op.eraseIdx K, RE l p j) :
    Clo l s name ⟨s.ld.filter (fun k => !(s.ld.filter fun k => !nd.contains k).reverse.contains k), s.op.eraseIdx K⟩ (s.ld.filter fun k => !nd.contains k).reverse 0 := by
  have hn : ∀ k, nd.contains k = needP l (s.op.eraseIdx K) k := fun k => by
    rw [Bool.eq_iff_iff, List.contains_iff_mem, hm, needP_iff]
  refine Or.inr ⟨by rw [hK]; exact h0, ?_, ?_, rfl⟩
  · rw [hK]
    congr 1
    refine List.filter_congr fun k hk => ?_
    rw [Bool.eq_iff_iff, ← hn]
    simp [hk]
  · rw [hK]
    congr 1
    exact List.filter_congr fun k _ => by rw [hn]
theorem gat_all (nd ld : List Nat) (n : Nat) (hn : ld.length = n) : gat nd (upto (backF (ordZ ld)) n) = ordZ (ld.filter fun k => !nd.contains k).reverse := by
  unfold gat
  have h := back_snds (ordZ ld)
  rw [ordZ_len, hn] at h
  rw [h, List.filter_reverse, ordZ_filter]
  unfold ordZ
  rw [List.map_reverse]
theorem gat_le (nd : List Nat) (pre : List (Int × Int)) : (gat nd pre).length ≤ pre.length := by
  unfold gat
  have := List.length_filter_le (fun x => !(ordZ nd).contains x) (pre.map fun x => x.2)
  simpa using this
/-- between two rounds -/
def LoopI (W0 : World) (X : Nat) (nd : List Nat) (pre : List (Int × Int)) (W : World) : Prop :=
  (∃ (a6 : Option Addr) (c6 mm : Nat), W.cell? ⟨X, 0, none⟩ = some (.slice a6 mm c6) ∧ mm = (gat nd pre).length ∧ W.ownsRow W0.heap.size 3 1 (.slice a6 mm c6) mm (i64s (gat nd pre))) ∧ W.frozen? ⟨X, 0, none⟩ = false ∧ KB W0.heap.size X W0 W
theorem loopI_own (W0 : World) (X : Nat) (nd : List Nat) : OwnFrom W0.heap.size (LoopI W0 X nd) := by
  rintro pre A B row ⟨⟨a6, c6, mm, h1, h2, h3⟩, h4, h5⟩ hg hr
  have hr' : ∀ r, row = some r → ∃ o : Go.Obj, A.heap[r]? = some o ∧ o.isCells = false := fun r e => (hr r e).2
  exact ⟨⟨a6, c6, mm, cell_kept h1 hg hr', h2, own_keptrow h3 hg hr'⟩, (frozen_kept h1 hg hr').trans h4, h5.grown hg h5.size (fun r e => Or.inl (hr r e).1)⟩
theorem never_own (B : Nat) (c : Code) : OwnFrom B (fun (_ : List (Int × Int)) (_ : World) => False) := fun _ _ _ _ h _ _ => h
set_option maxRecDepth 100000 in
set_option maxHeartbeats 8000000 in
theorem close_yes (a : Option Addr) (l : List Obj) (c : Nat) (a1 a2 : Option Addr) (c1 c2 : Nat) (s : St) (name : List UInt8) (w : World) (hl : RdO w a l) (hm : l.length ≤ 100) (hnm : Named l) (hs : RdSt w a1 a2 s) (h1 : s.ld.length ≤ 1000) (h2 : s.op.length ≤ 100) (hop : ∀ k ∈ s.op, k < l.length) (hla : 0 < lastP s.op (findO l name)) :
    Calls Try.prog 15 #[.slice a l.length c, .agg #[.slice a1 s.ld.length c1, .slice a2 s.op.length c2], .string ⟨name.toArray⟩] w (StepPost w (Clo l s name)) := by
  have HL := Lib.hid hl
  have HFI := Lib.hid (fun W (hW : RdO W a l) => find_any a l c name W hW (by omega))
  have HLA := Lib.hid (fun W (hW : Rd W a2 s.op.length (i64s (ordZ s.op))) => lastplace_any a2 s.op.length c2 (ordZ s.op) (findO l name) W hW (by omega))
  have HCO := Lib.hid (fun W (hW : Below w.heap.size w W) => copied_any a1 a2 c1 c2 s W (hs.below hW) (by omega) (by omega))
  obtain ⟨K, hK⟩ : ∃ K, lastP s.op (findO l name) = K := ⟨_, rfl⟩
  have HKK := Lib.hid hK
  rw [hK] at hla
  have HNE := Lib.hid (fun b d W (hW : RdO W a l) (hb : Rd W b (s.op.eraseIdx K).length (i64s (ordZ (s.op.eraseIdx K)))) => needed_any a l c b (s.op.eraseIdx K) d W hW hm hnm hb (fun k hk => hop k (List.mem_of_mem_eraseIdx hk)) (by have := List.length_eraseIdx_le (l := s.op) (i := K); omega))
  have HRD := Lib.hid hs
  unfold lastP at hK
  rw [hK] at HLA
  clear hl hnm hs hK
  obtain ⟨n1, hn1⟩ : ∃ n, s.ld.length = n := ⟨_, rfl⟩
  obtain ⟨n2, hn2⟩ : ∃ n, s.op.length = n := ⟨_, rfl⟩
  obtain ⟨m, hlm⟩ : ∃ m, l.length = m := ⟨_, rfl⟩
  unfold CopPost at HCO
  unfold RdSt at HRD
  rw [hn1, hn2] at HCO HRD
  rw [hlm] at HFI HNE hm
  rw [hn2] at HLA h2
  rw [hn1] at h1
  rw [hn1, hn2, hlm]
  have HN1 := Lib.hid hn1
  have HN2 := Lib.hid hn2
  have HLM := Lib.hid hlm
  clear hn1 hn2 hlm hop
  refine (callsIn_wide (n := 9)).1 ?_
  refine callsIn_of_wp_marks Try.func15 rfl trivial ?_ rfl
  simp only [Try.ntmps15, List.size_toArray, List.length_cons, List.length_nil, Nat.reduceAdd, Nat.reduceSub, Array.replicate_succ, Array.replicate_zero, List.push_toArray, List.append_toArray, List.nil_append, List.cons_append]
  refine wpIn_wide.2 ?_
  go_wp2_with fail
  refine (HCO.out _ (bAlloc (bAlloc (bAlloc (Below.refl _ _) _) _) _)).mono ?_; rintro e w1 ⟨b1, d1, b2, d2, rfl, ho1, hb1⟩
  obtain ⟨hb2, z1, z2, z3, s3, s2⟩ := thr_new (w := w) (W := w1) (x1 := .slice a1 n1 c1) (x2 := .slice a2 n2 c2) (y1 := .slice none 0 0) (y2 := .slice none 0 0) (z := .slice none 0 0) (t := 28) (t' := 28) (t'' := 26) hb1
  have ho2 : OwnSt (Two w (.slice a1 n1 c1) (.slice a2 n2 c2) (.slice none 0 0) (.slice none 0 0) 28 28).heap.size w1 (.slice b1 n1 d1) (.slice b2 n2 d2) n1 n2 (ordZ s.ld) (ordZ s.op) := OwnSt.mono ho1 (by rw [s2]; show _ ≤ (Thr w _ _ _ _ _ _ _ _).heap.size; rw [s3]; omega)
  obtain ⟨-, ⟨x3, x4⟩, -, x6, x7, -⟩ := two_new hb2
  have x8 := x6 0
  have x9 := x6 1
  have G1 := Lib.hid (fun g hg => show w.heap.size + 3 ≤ g by have := (ho1.1.lt g hg).1; change (Thr w _ _ _ _ _ _ _ _).heap.size ≤ g at this; rw [s3] at this; exact this)
  have G2 := Lib.hid (fun g hg => show w.heap.size + 3 ≤ g by have := (ho1.2.1.lt g hg).1; change (Thr w _ _ _ _ _ _ _ _).heap.size ≤ g at this; rw [s3] at this; exact this)
  have NA := Lib.hid (NextAt.start hb2 ho2)
  have EB : Hid (EndBox w ((w1.setCell ⟨w.heap.size + 1, 0, none⟩ (.slice b1 n1 d1)).setCell ⟨w.heap.size + 1, 1, none⟩ (.slice b2 n2 d2)) (.slice none 0 0)) := Lib.hid ((EndBox.set (show EndBox w w1 (.slice none 0 0) from ⟨z1, z2, z3⟩) _ _ (by omega) _).set _ _ (by omega) _)
  clear ho1 hb1 x6 hb2 ho2 z1 z2 s3 s2
  go_wp2_with fail
  clear x3 x4 x7 x8 x9
  generalize (w1.setCell ⟨w.heap.size + 1, 0, none⟩ (.slice b1 n1 d1)).setCell ⟨w.heap.size + 1, 1, none⟩ (.slice b2 n2 d2) = W2 at *
  have hsc := NA.out.sc.2
  have HK2 := Lib.hid (fun W (hW : Below W2.heap.size W2 W) => (hW.cell (p := ⟨w.heap.size, 1, none⟩) (heap_lt_of_cell hsc)).trans hsc)
  have H2 := Lib.hid (Below.refl W2.heap.size W2)
  go_region_held3 (fun W => W.cell? ⟨w.heap.size, 1, none⟩ = some (.slice a2 n2 c2))
    (first | exact HK2.out _ H2.out | exact HK2.out _ (Below.drew H2.out) | exact HK2.out _ H5.out | go_keep)
    (first
      | (go_at_call 38; (with_reducible refine (HFI.out _ (HL.out.below (Below.drew NA.out.bel))).mono ?_); rintro e w5 ⟨rfl, hb5⟩; have H5 := Lib.hid (bTrans (Below.drew H2.out) hb5); clear hb5)
      | (go_at_call 37; (with_reducible refine (HLA.out _ (HRD.out.2.below (bTrans NA.out.bel H5.out))).mono ?_); rintro e w6 ⟨⟨k, rfl, hk⟩, rfl⟩; have HK := Lib.hid hk; clear hk))
  obtain ⟨rfl, hKn⟩ := last_yes HK.out hla
  have NA5 := Lib.hid (NA.out.below H5.out)
  have EB5 := Lib.hid (EB.out.below H5.out)
  obtain ⟨y1, y2⟩ := NA5.out.nc
  have y3 := NA5.out.nf 0
  have y4 := NA5.out.nf 1
  have hd1 : decide ((K : Int) < 1) = false := decide_eq_false (by omega)
  have HDE := Lib.hid (delete_any b2 n2 d2 (w.heap.size + 2) K (ordZ s.op) w5 NA5.out.own.2.1 hKn)
  clear HK hsc
  go_wp2_with fail
  refine HDE.out.mono ?_; rintro e w6 ⟨rfl, ho6, hg6⟩
  rw [ordZ_erase] at ho6
  have NA6 := Lib.hid (NA5.out.app2 hg6 ho6 (Or.inl (by cases b2 <;> rfl)))
  have EB6 := Lib.hid ((EB5.out.grown hg6 G2.out).set (w.heap.size + 1) 1 (by omega) (.slice b2 (n2 - 1) d2))
  have z1 : w6.cell? ⟨w.heap.size + 1, 1, none⟩ = some (.slice b2 n2 d2) := (World.cell?_of_block (own_far (w := w) hg6 (fun g hg => (NA5.out.own.2.1.lt g hg).1) (w.heap.size + 1) (by omega) NA5.out.sz)).trans NA5.out.nc.2
  have z2 : w6.frozen? ⟨w.heap.size + 1, 1, none⟩ = false := (World.frozen?_of_block (own_far (w := w) hg6 (fun g hg => (NA5.out.own.2.1.lt g hg).1) (w.heap.size + 1) (by omega) NA5.out.sz)).trans (NA5.out.nf 1)
  have hle : (s.op.eraseIdx K).length = n2 - 1 := by rw [List.length_eraseIdx, HN2.out, if_pos hKn]
  have HNE1 := Lib.hid (fun W (hW : RdO W a l) (hb : Rd W b2 (s.op.eraseIdx K).length (i64s (ordZ (s.op.eraseIdx K)))) => HNE.out b2 d2 W hW hb)
  rw [hle] at HNE1
  clear ho6 hg6 HDE y1 y2 y3 y4 hle
  have y1 : (w6.setCell ⟨w.heap.size + 1, 1, none⟩ (.slice b2 (n2 - 1) d2)).cell? ⟨w.heap.size + 1, 1, none⟩ = some (.slice b2 (n2 - 1) d2) := NA6.out.nc.2
  go_wp2_with fail
  refine (HNE1.out _ (HL.out.below NA6.out.bel) (Rd.of_own NA6.out.own.2.1)).mono ?_; rintro e w7 ⟨an, cn, nd, rfl, hrn, hmn, hndn, hltn, hb7⟩
  have hnn := nodup_le _ nd hndn hltn
  rw [HLM.out] at hnn
  obtain ⟨nn, hnq⟩ : ∃ n, nd.length = n := ⟨_, rfl⟩
  rw [hnq] at hrn hnn ⊢
  have O7 := Lib.hid hrn
  have hsz6 : w.heap.size + 3 ≤ (w6.setCell ⟨w.heap.size + 1, 1, none⟩ (.slice b2 (n2 - 1) d2)).heap.size := EB6.out.2.2
  have HAN := Lib.hid (show ∀ g, (Value.slice an nn cn).ownBlock = some g → w.heap.size + 3 ≤ g from fun g hg => by have := (hrn.lt g hg).1; omega)
  have HMN := Lib.hid hmn
  have HNN := Lib.hid hnq
  have NA7 := Lib.hid (NA6.out.below hb7)
  have EB7 := Lib.hid (EB6.out.below hb7)
  have y2 := NA7.out.sc.1
  have y3 : w.heap.size < w7.heap.size := by have := NA7.out.sz; omega
  clear hrn hmn hndn hltn hb7 y1 z1 z2 HNE HNE1 hnq
  go_wp2_with fail
  refine (backward_any _ _ _ _).mono ?_; rintro e w8 ⟨rfl, rfl⟩
  go_wp2_with fail
  have hz0 : ((w7.alloc (.cells #[.slice an nn cn] 26)).alloc (.cells #[.slice a1 n1 c1] 26)).heap.size = w7.heap.size + 2 := by rw [size_alloc, size_alloc]
  have hbw : Below w7.heap.size w7 ((w7.alloc (.cells #[.slice an nn cn] 26)).alloc (.cells #[.slice a1 n1 c1] 26)) := bAlloc (bAlloc (Below.refl _ _) _) _
  have NA0 := Lib.hid (NA7.out.below hbw)
  have EB0 := Lib.hid (EB7.out.below hbw)
  have O0 := Lib.hid (own_below O7.out hbw)
  have q1 : ((w7.alloc (.cells #[.slice an nn cn] 26)).alloc (.cells #[.slice a1 n1 c1] 26)).cell? ⟨w7.heap.size, 0, none⟩ = some (.slice an nn cn) := (boxed (w := w7) (bAlloc (Below.refl _ _) _) 0).trans rfl
  have q2 : ((w7.alloc (.cells #[.slice an nn cn] 26)).alloc (.cells #[.slice a1 n1 c1] 26)).cell? ⟨w7.heap.size + 1, 0, none⟩ = some (.slice a1 n1 c1) := by
    have k := boxed (w := w7.alloc (.cells #[.slice an nn cn] 26)) (cs := #[.slice a1 n1 c1]) (t := 26) (Below.refl _ _) 0
    rw [size_alloc] at k
    exact k.trans rfl
  have hz7 : w.heap.size + 3 ≤ w7.heap.size := EB7.out.2.2
  have Q1 := Lib.hid q1
  have Q2 := Lib.hid q2
  have HZ0 := Lib.hid hz0
  clear hbw q1 q2 hz0 y2 y3 hsz6
  generalize (w7.alloc (.cells #[.slice an nn cn] 26)).alloc (.cells #[.slice a1 n1 c1] 26) = W0 at *
  have hz00 := HZ0.out
  have HBK := back_stops Fence.wide 8 trivial rfl (by decide) (w7.heap.size + 1) W0.heap.size (w.heap.size + 1 + 1) a1 c1 (ordZ s.ld) (by rw [ordZ_len, HN1.out]; omega) (by omega) (by omega) (fun b off h0 e => by rw [ordZ_len, HN1.out] at h0; have := rd_addr HRD.out.1 h0 e; omega) W0
  rw [ordZ_len, HN1.out] at HBK
  have HBK2 := Lib.hid (HBK Q2.out (HRD.out.1.below NA0.out.bel))
  clear HBK
  refine (wpIn_wide (n := 9)).1 ?_
  refine wpIn_rangeFunc_ownG rfl (by decide) (gf := 54) (lb := #[.pointer (some ⟨w7.heap.size + 1, 0, none⟩)]) rfl trivial (enters_of Try.func54 (by kernel_rfl) rfl) HBK2.out (fun h k => h.trans k) (fun W l o o' hl _ _ _ => KB.putObj W l o' hl) (Below.refl _ _) (fun _ => rfl)
    (LoopI W0 (w.heap.size + 1 + 1) nd) (fun _ _ _ => False) (loopI_own _ _ _) (fun c => never_own _ c)
    ⟨⟨none, 0, 0, EB0.out.1, rfl, World.ownsRow_nil _ _ _ _⟩, EB0.out.2.1, KB.refl _ _ _⟩
    (fun x => { tmps := #[.slice a m c, .agg #[.slice a1 n1 c1, .slice a2 n2 c2], .string ⟨name.toArray⟩, undef, .pointer (some ⟨w.heap.size, 0, none⟩), undef, .pointer (some ⟨w.heap.size + 1, 0, none⟩), .pointer (some ⟨w.heap.size + 1 + 1, 0, none⟩), .int .i64 0, .int .i64 (K : Int), .pointer (some ⟨w7.heap.size, 0, none⟩), undef, .int .i64 x.2, .agg #[.slice a1 n1 c1, .slice a2 n2 c2], .agg #[.slice b1 n1 d1, .slice b2 n2 d2], .pointer (some ⟨w.heap.size, 1, none⟩), .slice a2 n2 c2, .slice a m c, .string ⟨name.toArray⟩, .int .i64 (findO l name), .int .i64 (K : Int), .int .i64 (K : Int), .bool false, undef, .pointer (some ⟨w.heap.size + 1, 1, none⟩), .slice b2 n2 d2, .int .i64 (K : Int), .int .i64 (K : Int), .int .i64 ((K : Int) + 1), .slice b2 (n2 - 1) d2, .pointer (some ⟨w.heap.size + 1, 1, none⟩), .slice a m c, .pointer (some ⟨w.heap.size + 1, 1, none⟩), .slice b2 (n2 - 1) d2, .slice an nn cn, .pointer (some ⟨w.heap.size, 0, none⟩), .slice a1 n1 c1, .func (.func 54) #[] #[.pointer (some ⟨w7.heap.size + 1, 0, none⟩)], .int .i64 x.1, .int .i64 x.2, undef, undef, undef, undef, undef, undef, undef, undef, undef, undef, undef, undef, undef, undef, undef], defers := [] }) ?assign ?body ?done ?stop
  case assign =>
    intro l x W K hK
    gi_wp2
    exact hK
  case body =>
    rintro lp pre x W ⟨⟨a6, c6, mm, v1, v2, v3⟩, v4, v5⟩ hpre
    have hgl := gat_le nd pre
    have hmm : mm ≤ 1000 := by omega
    have t1 := v5.cell (b := w7.heap.size) (by omega) (by omega) Q1.out
    have HCN := Lib.hid (contains_any an nn cn (ordZ nd) x.2 W (Rd.of_own (own_kb O0.out v5 (fun g hg => by have := HAN.out g hg; omega))) (by omega))
    have hgs := gat_snoc nd pre x
    obtain ⟨sb, hsb⟩ : ∃ sb, (ordZ nd).contains x.2 = sb := ⟨_, rfl⟩
    rw [hsb] at HCN hgs
    have hXW : w.heap.size + 1 + 1 < W.heap.size := by have := v5.size; omega
    have V3 := Lib.hid v3
    have V5 := Lib.hid v5
    have V2 := Lib.hid v2
    have hb5 := v5.size
    clear v3 v5 hsb v2 hgl
    cases sb with
    | true =>
      rw [if_pos rfl, List.append_nil] at hgs
      have HGS := Lib.hid hgs
      clear hgs
      gi_wp2_with (refine ⟨trivial, ?_⟩; gi_at_call 36; refine (CallsIn.inRound lp (callsIn_wide.2 HCN.out)).mono ?_; rintro e w' ⟨rfl, rfl⟩)
      exact ⟨KeepsFrom.refl _ _, KB.refl _ _ _, ⟨⟨a6, c6, mm, v1, by rw [HGS.out]; exact V2.out, by rw [HGS.out]; exact V3.out⟩, v4, V5.out⟩⟩
    | false =>
      rw [if_neg Bool.false_ne_true] at hgs
      have HGS := Lib.hid hgs
      clear hgs
      gi_wp2_with (first
        | (refine ⟨trivial, ?_⟩; gi_at_call 36; refine (CallsIn.inRound lp (callsIn_wide.2 HCN.out)).mono ?_; rintro e w' ⟨rfl, rfl⟩)
        | (gi_at_builtin; refine wpListIn_app _ rfl _ _ rfl W0.heap.size (.slice a6 mm c6) mm (gat nd pre) rfl (V3.out.alloc _) (some ⟨W.heap.size, 0, none⟩) 1 1 [x.2] rfl (rd_one W x.2 3) (by omega) (by simp; omega) ?_; intro a' c' w2 hown2 hgrow2 hat2; have HO2 := Lib.hid hown2; have HG2 := Lib.hid hgrow2; have hf2 : w2.heap[w.heap.size + 1 + 1]? = W.heap[w.heap.size + 1 + 1]? := (hgrow2.block _ (by simp; omega) (fun e => by have := (V3.out.lt _ e.symm).1; omega)).trans (Below.heap_alloc _ _ _ hXW); have g1 := (World.cell?_of_block (a := ⟨w.heap.size + 1 + 1, 0, none⟩) hf2).trans v1; have g2 := (World.frozen?_of_block (a := ⟨w.heap.size + 1 + 1, 0, none⟩) hf2).trans v4; clear hown2 hgrow2 hat2 hf2))
      have hkb : KB W0.heap.size (w.heap.size + 1 + 1) W (w2.setCell ⟨w.heap.size + 1 + 1, 0, none⟩ (.slice a' (mm + 1) c')) := (((KB.refl _ _ W).grown (row := none) (World.grownBy_alloc W _ none) hb5 (fun r e => by cases e)).grown HG2.out (by simp; omega) (fun r e => Or.inl (V3.out.lt r e).1)).set ⟨w.heap.size + 1 + 1, 0, none⟩ rfl _
      refine ⟨(((KeepsOthers.alloc W _).trans (KeepsOthers.of_grownBy HG2.out (fun j o e ho => own_isCells (V3.out.alloc _) j o e ho))).trans (KeepsOthers.setCell _ _ _)).from _, hkb, ⟨⟨a', c', mm + 1, World.cell?_setCell_same _ _ _ g1, by rw [HGS.out, List.length_append, ← V2.out]; rfl, ?_⟩, by rw [World.frozen?_setCell]; exact g2, V5.out.trans hkb⟩⟩
      rw [HGS.out]
      exact own_kept_block HO2.out fun g hg => Below.heap_setCell _ _ _ _ (by show g ≠ w.heap.size + 1 + 1; omega)
  case done =>
    rintro D ys W hD rfl ⟨⟨a6, c6, mm, v1, v2, v3⟩, v4, v5⟩ hKD
    rw [gat_all nd s.ld n1 HN1.out] at v2 v3
    rw [ordZ_len] at v2
    have NA9 := Lib.hid (NA0.out.kb v5 rfl rfl G1.out (fun g hg => G2.out g (by cases b2 <;> exact hg)))
    have B1 := Lib.hid (fun g hg => (NA0.out.own.1.lt g hg).2)
    have hsz := v5.size
    have hmm : mm ≤ n1 := by rw [v2, List.length_reverse, ← HN1.out]; exact List.length_filter_le _ _
    have HDF := Lib.hid (delfc_any b1 n1 d1 (w.heap.size + 2) (ordZ s.ld) (w.heap.size + 1 + 1) a6 mm c6 (ordZ (s.ld.filter fun k => !nd.contains k).reverse) W NA9.out.own.1 (by omega) v1 (Rd.of_own v3) (by omega) (fun g hg => ⟨by have := G1.out g hg; omega, fun b off h0 e => by subst e; have := B1.out g hg; have := (v3.lt b rfl).1; omega⟩))
    have V3 := Lib.hid v3
    have V2 := Lib.hid v2
    have EB9 : Hid (EndBox w W (.slice a6 mm c6)) := Lib.hid ⟨v1, v4, by have := EB0.out.2.2; omega⟩
    have HKD := Lib.hid hKD
    have hDl : D < W.heap.size := (Array.getElem?_eq_some_iff.1 hKD).1
    have HB9 := Lib.hid NA9.out.bel
    obtain ⟨y1, y2⟩ := NA9.out.nc
    have y3 := NA9.out.nf 0
    have y4 : w.heap.size + 1 < W.heap.size := by have := NA9.out.sz; omega
    clear v1 v2 v3 v4 v5 hKD
    go_wp2_with fail
    refine HDF.out.mono ?_; rintro e w9 ⟨n9, rfl, hn9, ho9, hg9⟩
    rw [ordZ_filter] at hn9 ho9
    rw [ordZ_len] at hn9
    have z1 : w9.cell? ⟨w.heap.size + 1, 0, none⟩ = some (.slice b1 n1 d1) := (World.cell?_of_block (own_far (w := w) hg9 (fun g hg => (NA9.out.own.1.lt g hg).1) (w.heap.size + 1) (by omega) NA9.out.sz)).trans NA9.out.nc.1
    have z2 : w9.frozen? ⟨w.heap.size + 1, 0, none⟩ = false := (World.frozen?_of_block (own_far (w := w) hg9 (fun g hg => (NA9.out.own.1.lt g hg).1) (w.heap.size + 1) (by omega) NA9.out.sz)).trans (NA9.out.nf 0)
    have NA10 := Lib.hid (NA9.out.app1 hg9 ho9 (Or.inl (by cases b1 <;> rfl)))
    have EB10 := Lib.hid ((EB9.out.grown hg9 G1.out).set (w.heap.size + 1) 0 (by omega) (.slice b1 n9 d1))
    have O10 := Lib.hid (own_kept_block (kept_ne V3.out hg9 (fun g hg h => by have := B1.out g hg; have := (V3.out.lt g h).1; omega)) fun g hg => Below.heap_setCell w9 ⟨w.heap.size + 1, 0, none⟩ (.slice b1 n9 d1) _ (show g ≠ w.heap.size + 1 by omega))
    have HKD10 := Lib.hid (show (w9.setCell ⟨w.heap.size + 1, 0, none⟩ (.slice b1 n9 d1)).heap[D]? = some (.deferred (some [])) from (Below.heap_setCell _ _ _ _ (show D ≠ w.heap.size + 1 by omega)).trans ((hg9.block D hDl (fun e => by have := B1.out D e.symm; omega)).trans HKD.out))
    have HN9 := Lib.hid hn9
    clear hn9 ho9 hg9 y1 y2 y3 y4
    go_wp2_with fail
    clear z1 z2
    generalize w9.setCell ⟨w.heap.size + 1, 0, none⟩ (.slice b1 n9 d1) = W10 at *
    obtain ⟨y1, y2⟩ := NA10.out.nc
    have y3 := NA10.out.nf 0
    have y4 := NA10.out.nf 1
    have y5 := EB10.out.1
    have y6 := EB10.out.2.1
    go_region_held3 (fun W => W.cell? ⟨w.heap.size + 1, 0, none⟩ = some (.slice b1 n9 d1) ∧ W.cell? ⟨w.heap.size + 1, 1, none⟩ = some (.slice b2 (n2 - 1) d2) ∧ W.cell? ⟨w.heap.size + 1 + 1, 0, none⟩ = some (.slice a6 mm c6))
      (first | with_reducible exact keep3D ⟨y1, y2, y5⟩ | with_reducible exact keep3D (keep3A ⟨y1, y2, y5⟩) | with_reducible exact keep3D (keep3B ⟨y1, y2, y5⟩) | with_reducible exact keep3D (keep3B (keep3A ⟨y1, y2, y5⟩)) | with_reducible exact keep3D (keep3A (keep3B ⟨y1, y2, y5⟩)) | go_keep)
      (fail)
    have HZ := Lib.hid EB10.out.2.2
    all_goals
      clear y1 y2 y3 y4 y5 y6
      have HG1' : Hid (∀ g, (Value.slice b1 n9 d1).ownBlock = some g → w.heap.size + 3 ≤ g) := Lib.hid (fun g hg => G1.out g (by cases b1 <;> exact hg))
      have HG2' : Hid (∀ g, (Value.slice b2 (n2 - 1) d2).ownBlock = some g → w.heap.size + 3 ≤ g) := Lib.hid (fun g hg => G2.out g (by cases b2 <;> exact hg))
      go_wp2_with fail
      have kn := NA10.out.again.set3 (.slice a6 mm c6) HG1'.out HG2'.out
      have kc := keep3D (keep3B (keep3A (show Thr3 W10 (w.heap.size + 1) (.slice b1 n9 d1) (.slice b2 (n2 - 1) d2) (.slice a6 mm c6) from ⟨NA10.out.nc.1, NA10.out.nc.2, EB10.out.1⟩)))
      have hK11 : (((W10.setCell ⟨w.heap.size + 1, 0, none⟩ (.slice b1 n9 d1)).setCell ⟨w.heap.size + 1, 1, none⟩ (.slice b2 (n2 - 1) d2)).setCell ⟨w.heap.size + 1 + 1, 0, none⟩ (.slice a6 mm c6)).heap[D]? = some (.deferred (some [])) := (Below.heap_setCell _ _ _ _ (show D ≠ w.heap.size + 1 + 1 by omega)).trans ((Below.heap_setCell _ _ _ _ (show D ≠ w.heap.size + 1 by omega)).trans ((Below.heap_setCell _ _ _ _ (show D ≠ w.heap.size + 1 by omega)).trans HKD10.out))
      have o11 := own_kept_block (own_kept_block (own_kept_block O10.out fun g hg => Below.heap_setCell W10 ⟨w.heap.size + 1, 0, none⟩ (.slice b1 n9 d1) _ (show g ≠ w.heap.size + 1 by omega)) fun g hg => Below.heap_setCell _ ⟨w.heap.size + 1, 1, none⟩ (.slice b2 (n2 - 1) d2) _ (show g ≠ w.heap.size + 1 by omega)) fun g hg => Below.heap_setCell _ ⟨w.heap.size + 1 + 1, 0, none⟩ (.slice a6 mm c6) _ (show g ≠ w.heap.size + 1 + 1 by omega)
      refine ⟨by simp, .inl ⟨D, _, rfl, run_takeDeferred hK11, ?_⟩⟩
      have kcp : Thr3 (World.putObj ((((W10.setCell ⟨w.heap.size + 1, 0, none⟩ (.slice b1 n9 d1)).setCell ⟨w.heap.size + 1, 1, none⟩ (.slice b2 (n2 - 1) d2)).setCell ⟨w.heap.size + 1 + 1, 0, none⟩ (.slice a6 mm c6)).drew) D (.deferred none)) (w.heap.size + 1) (.slice b1 n9 d1) (.slice b2 (n2 - 1) d2) (.slice a6 mm c6) :=
        ⟨cell_kept (row := some D) kc.1 (grownBy_putObj' _ D (.deferred none)) (fun r e => by cases e; exact ⟨_, hK11, rfl⟩), cell_kept (row := some D) kc.2.1 (grownBy_putObj' _ D (.deferred none)) (fun r e => by cases e; exact ⟨_, hK11, rfl⟩), cell_kept (row := some D) kc.2.2 (grownBy_putObj' _ D (.deferred none)) (fun r e => by cases e; exact ⟨_, hK11, rfl⟩)⟩
      have r1 : Rd (World.putObj ((((W10.setCell ⟨w.heap.size + 1, 0, none⟩ (.slice b1 n9 d1)).setCell ⟨w.heap.size + 1, 1, none⟩ (.slice b2 (n2 - 1) d2)).setCell ⟨w.heap.size + 1 + 1, 0, none⟩ (.slice a6 mm c6)).drew) D (.deferred none)) b1 n9 _ := Rd.of_own (ownsRow_putObj kn.own.1 (.deferred none) hK11 rfl)
      have r2 : Rd (World.putObj ((((W10.setCell ⟨w.heap.size + 1, 0, none⟩ (.slice b1 n9 d1)).setCell ⟨w.heap.size + 1, 1, none⟩ (.slice b2 (n2 - 1) d2)).setCell ⟨w.heap.size + 1 + 1, 0, none⟩ (.slice a6 mm c6)).drew) D (.deferred none)) b2 (n2 - 1) _ := Rd.of_own (ownsRow_putObj kn.own.2.1 (.deferred none) hK11 rfl)
      have r3 : Rd (World.putObj ((((W10.setCell ⟨w.heap.size + 1, 0, none⟩ (.slice b1 n9 d1)).setCell ⟨w.heap.size + 1, 1, none⟩ (.slice b2 (n2 - 1) d2)).setCell ⟨w.heap.size + 1 + 1, 0, none⟩ (.slice a6 mm c6)).drew) D (.deferred none)) a6 mm _ := Rd.of_own (ownsRow_putObj o11 (.deferred none) hK11 rfl)
      have hb12 : Below w.heap.size w (World.putObj ((((W10.setCell ⟨w.heap.size + 1, 0, none⟩ (.slice b1 n9 d1)).setCell ⟨w.heap.size + 1, 1, none⟩ (.slice b2 (n2 - 1) d2)).setCell ⟨w.heap.size + 1 + 1, 0, none⟩ (.slice a6 mm c6)).drew) D (.deferred none)) := (Below.drew kn.bel).trans (belowK_b (w := w) (Nat.le_refl _) _ D _ _ (by omega) hK11 rfl rfl)
      generalize World.putObj ((((W10.setCell ⟨w.heap.size + 1, 0, none⟩ (.slice b1 n9 d1)).setCell ⟨w.heap.size + 1, 1, none⟩ (.slice b2 (n2 - 1) d2)).setCell ⟨w.heap.size + 1 + 1, 0, none⟩ (.slice a6 mm c6)).drew) D (.deferred none) = W12 at *
      refine leaves_plain (v := .tuple #[.agg #[.slice b1 n9 d1, .slice b2 (n2 - 1) d2], .slice a6 mm c6, .int .i64 0]) ?_ (step_of _ _ (clo_fin HKK.out hla HMN.out) HN9.out.symm (by rw [List.length_eraseIdx, HN2.out, if_pos hKn]) V2.out.symm r1 r2 r3 hb12)
      simp [results, Try.results15, go_sem, kcp.1, kcp.2.1, kcp.2.2]
  case stop =>
    rintro D c pre W _ _ h _
    exact h.elim
theorem close_any (a : Option Addr) (l : List Obj) (c : Nat) (a1 a2 : Option Addr) (c1 c2 : Nat) (s : St) (name : List UInt8) (w : World) (hl : RdO w a l) (hm : l.length ≤ 100) (hnm : Named l) (hs : RdSt w a1 a2 s) (h1 : s.ld.length ≤ 1000) (h2 : s.op.length ≤ 100) (hop : ∀ k ∈ s.op, k < l.length) :
    Calls Try.prog 15 #[.slice a l.length c, .agg #[.slice a1 s.ld.length c1, .slice a2 s.op.length c2], .string ⟨name.toArray⟩] w (StepPost w (Clo l s name)) := by
  rcases Nat.eq_zero_or_pos (lastP s.op (findO l name)) with h | h
  · exact close_no a l c a1 a2 c1 c2 s name w hl hm hnm hs h1 (by omega) h
  · exact close_yes a l c a1 a2 c1 c2 s name w hl hm hnm hs h1 h2 hop h
end Go.Proofs.Ytfneikphgmjfbaa
