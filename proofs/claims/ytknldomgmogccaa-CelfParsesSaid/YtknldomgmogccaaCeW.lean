/- CelfWithin: its walk. -/
import Derived.Test.YtknldomgmogccaaCeU
import Derived.Deep.Cut
namespace Go.Proofs.Ytknldomgmogccaa
set_option linter.unusedVariables false
set_option linter.unusedSimpArgs false
open Go.Joins Go.ChangeShapes Go.WideShapes Go.ChangeAt Go.RowKit Go.Deep

theorem zlt : (0 : Nat) < 9223372036854775808 := by decide
theorem check0 (o : Ob) : checkF o = 0 ↔ namesB o = true ∧ countsB o = true ∧ segsB 0 o.segs = true ∧ o.syms.all (symB o.segs) = true ∧ relsB o.segs o.syms 0 o.rels = true ∧ o.init.all (fnB o.syms) = true ∧ o.fini.all (fnB o.syms) = true := by
  unfold checkF
  cases namesB o <;> cases countsB o <;> cases segsB 0 o.segs <;> cases o.syms.all (symB o.segs) <;> cases relsB o.segs o.syms 0 o.rels <;> cases o.init.all (fnB o.syms) <;> cases o.fini.all (fnB o.syms) <;> decide
theorem counts_iff (o : Ob) : countsB o = true ↔ o.needs.length ≤ 8 ∧ o.segs.length ≤ 6 ∧ o.syms.length ≤ 40 ∧ o.rels.length ≤ 60 ∧ o.init.length ≤ 8 ∧ o.fini.length ≤ 8 := by
  unfold countsB
  simp only [Bool.and_eq_true, decide_eq_true_eq]
theorem less_all (o : Ob) (h : checkF o = 0) : checkF ⟨o.name, o.needs, o.segs, o.syms, [], o.init, o.fini, o.na, o.nc, o.ga, o.gc, o.sa, o.sc, none, 0, o.ia, o.ic, o.fa, o.fc⟩ = 0 ∧ checkF ⟨o.name, o.needs, o.segs, o.syms, [], [], [], o.na, o.nc, o.ga, o.gc, o.sa, o.sc, none, 0, none, 0, none, 0⟩ = 0 ∧ checkF ⟨o.name, o.needs, o.segs, [], [], [], [], o.na, o.nc, o.ga, o.gc, none, 0, none, 0, none, 0, none, 0⟩ = 0 ∧ checkF ⟨o.name, o.needs, [], [], [], [], [], o.na, o.nc, none, 0, none, 0, none, 0, none, 0, none, 0⟩ = 0 ∧ checkF ⟨o.name, [], [], [], [], [], [], none, 0, none, 0, none, 0, none, 0, none, 0, none, 0⟩ = 0 := by
  obtain ⟨h1, h2, h3, h4, h5, h6, h7⟩ := (check0 o).1 h
  obtain ⟨c1, c2, c3, c4, c5, c6⟩ := (counts_iff o).1 h2
  have hn : nameB o.name = true := by
    unfold namesB at h1
    rw [Bool.and_eq_true] at h1
    exact h1.1
  exact ⟨(check0 _).2 ⟨h1, ((counts_iff _).2 ⟨c1, c2, c3, by simp, c5, c6⟩), h3, h4, rfl, h6, h7⟩,
    (check0 _).2 ⟨h1, ((counts_iff _).2 ⟨c1, c2, c3, by simp, by simp, by simp⟩), h3, h4, rfl, rfl, rfl⟩,
    (check0 _).2 ⟨h1, ((counts_iff _).2 ⟨c1, c2, by simp, by simp, by simp, by simp⟩), h3, rfl, rfl, rfl, rfl⟩,
    (check0 _).2 ⟨h1, ((counts_iff _).2 ⟨c1, by simp, by simp, by simp, by simp, by simp⟩), rfl, rfl, rfl, rfl, rfl⟩,
    (check0 _).2 ⟨(by show (nameB o.name && needsB o.name [] 0) = true; rw [hn]; rfl), ((counts_iff _).2 ⟨by simp, by simp, by simp, by simp, by simp, by simp⟩), rfl, rfl, rfl, rfl, rfl⟩⟩
set_option maxHeartbeats 2000000 in
set_option maxRecDepth 100000 in
theorem CelfWithin_walk (o : Ob) (w : World) (hr : RdOb w o) (hf : FitOb o) (hnc : o.needs.length ≤ o.nc) :
    Calls Try.prog 6 #[objV o] w fun e w' => e = .returned (.bool true) ∧ Below w.heap.size w w' := by
  have HC0 := Lib.hid (fun W (hW : Below w.heap.size w W) => (show Calls Try.prog 12 #[.agg #[.string ⟨o.name.toArray⟩, .slice o.na o.needs.length o.nc, .slice o.ga o.segs.length o.gc, .slice o.sa o.syms.length o.sc, .slice o.ra o.rels.length o.rc, .slice o.ia o.init.length o.ic, .slice o.fa o.fini.length o.fc]] W fun e w' => e = .returned (.int .i64 (checkF (⟨o.name, o.needs, o.segs, o.syms, o.rels, o.init, o.fini, o.na, o.nc, o.ga, o.gc, o.sa, o.sc, o.ra, o.rc, o.ia, o.ic, o.fa, o.fc⟩ : Ob))) ∧ Below W.heap.size W w' from check_any (⟨o.name, o.needs, o.segs, o.syms, o.rels, o.init, o.fini, o.na, o.nc, o.ga, o.gc, o.sa, o.sc, o.ra, o.rc, o.ia, o.ic, o.fa, o.fc⟩ : Ob) W ⟨(hr.below hW).nd, (hr.below hW).sg, (hr.below hW).by_, (hr.below hW).sy, (hr.below hW).rl, (hr.below hW).ini, (hr.below hW).fin⟩ ⟨hf.nm, hf.nd, hf.ndl, hf.sgl, hf.sg, hf.syl, hf.sy, hf.rll, hf.rl, hf.inl, hf.fil⟩ hnc))
  have HC1 := Lib.hid (fun W (hW : Below w.heap.size w W) => (show Calls Try.prog 12 #[.agg #[.string ⟨o.name.toArray⟩, .slice o.na o.needs.length o.nc, .slice o.ga o.segs.length o.gc, .slice o.sa o.syms.length o.sc, .slice none 0 0, .slice o.ia o.init.length o.ic, .slice o.fa o.fini.length o.fc]] W fun e w' => e = .returned (.int .i64 (checkF (⟨o.name, o.needs, o.segs, o.syms, [], o.init, o.fini, o.na, o.nc, o.ga, o.gc, o.sa, o.sc, none, 0, o.ia, o.ic, o.fa, o.fc⟩ : Ob))) ∧ Below W.heap.size W w' from check_any (⟨o.name, o.needs, o.segs, o.syms, [], o.init, o.fini, o.na, o.nc, o.ga, o.gc, o.sa, o.sc, none, 0, o.ia, o.ic, o.fa, o.fc⟩ : Ob) W ⟨(hr.below hW).nd, (hr.below hW).sg, (hr.below hW).by_, (hr.below hW).sy, Rd.nil _ _, (hr.below hW).ini, (hr.below hW).fin⟩ ⟨hf.nm, hf.nd, hf.ndl, hf.sgl, hf.sg, hf.syl, hf.sy, zlt, by simp, hf.inl, hf.fil⟩ hnc))
  have HC2 := Lib.hid (fun W (hW : Below w.heap.size w W) => (show Calls Try.prog 12 #[.agg #[.string ⟨o.name.toArray⟩, .slice o.na o.needs.length o.nc, .slice o.ga o.segs.length o.gc, .slice o.sa o.syms.length o.sc, .slice none 0 0, .slice none 0 0, .slice none 0 0]] W fun e w' => e = .returned (.int .i64 (checkF (⟨o.name, o.needs, o.segs, o.syms, [], [], [], o.na, o.nc, o.ga, o.gc, o.sa, o.sc, none, 0, none, 0, none, 0⟩ : Ob))) ∧ Below W.heap.size W w' from check_any (⟨o.name, o.needs, o.segs, o.syms, [], [], [], o.na, o.nc, o.ga, o.gc, o.sa, o.sc, none, 0, none, 0, none, 0⟩ : Ob) W ⟨(hr.below hW).nd, (hr.below hW).sg, (hr.below hW).by_, (hr.below hW).sy, Rd.nil _ _, Rd.nil _ _, Rd.nil _ _⟩ ⟨hf.nm, hf.nd, hf.ndl, hf.sgl, hf.sg, hf.syl, hf.sy, zlt, by simp, zlt, zlt⟩ hnc))
  have HC3 := Lib.hid (fun W (hW : Below w.heap.size w W) => (show Calls Try.prog 12 #[.agg #[.string ⟨o.name.toArray⟩, .slice o.na o.needs.length o.nc, .slice o.ga o.segs.length o.gc, .slice none 0 0, .slice none 0 0, .slice none 0 0, .slice none 0 0]] W fun e w' => e = .returned (.int .i64 (checkF (⟨o.name, o.needs, o.segs, [], [], [], [], o.na, o.nc, o.ga, o.gc, none, 0, none, 0, none, 0, none, 0⟩ : Ob))) ∧ Below W.heap.size W w' from check_any (⟨o.name, o.needs, o.segs, [], [], [], [], o.na, o.nc, o.ga, o.gc, none, 0, none, 0, none, 0, none, 0⟩ : Ob) W ⟨(hr.below hW).nd, (hr.below hW).sg, (hr.below hW).by_, Rd.nil _ _, Rd.nil _ _, Rd.nil _ _, Rd.nil _ _⟩ ⟨hf.nm, hf.nd, hf.ndl, hf.sgl, hf.sg, zlt, by simp, zlt, by simp, zlt, zlt⟩ hnc))
  have HC4 := Lib.hid (fun W (hW : Below w.heap.size w W) => (show Calls Try.prog 12 #[.agg #[.string ⟨o.name.toArray⟩, .slice o.na o.needs.length o.nc, .slice none 0 0, .slice none 0 0, .slice none 0 0, .slice none 0 0, .slice none 0 0]] W fun e w' => e = .returned (.int .i64 (checkF (⟨o.name, o.needs, [], [], [], [], [], o.na, o.nc, none, 0, none, 0, none, 0, none, 0, none, 0⟩ : Ob))) ∧ Below W.heap.size W w' from check_any (⟨o.name, o.needs, [], [], [], [], [], o.na, o.nc, none, 0, none, 0, none, 0, none, 0, none, 0⟩ : Ob) W ⟨(hr.below hW).nd, Rd.nil _ _, by simp, Rd.nil _ _, Rd.nil _ _, Rd.nil _ _, Rd.nil _ _⟩ ⟨hf.nm, hf.nd, hf.ndl, zlt, by simp, zlt, by simp, zlt, by simp, zlt, zlt⟩ hnc))
  have HC5 := Lib.hid (fun W (hW : Below w.heap.size w W) => (show Calls Try.prog 12 #[.agg #[.string ⟨o.name.toArray⟩, .slice none 0 0, .slice none 0 0, .slice none 0 0, .slice none 0 0, .slice none 0 0, .slice none 0 0]] W fun e w' => e = .returned (.int .i64 (checkF (⟨o.name, [], [], [], [], [], [], none, 0, none, 0, none, 0, none, 0, none, 0, none, 0⟩ : Ob))) ∧ Below W.heap.size W w' from check_any (⟨o.name, [], [], [], [], [], [], none, 0, none, 0, none, 0, none, 0, none, 0, none, 0⟩ : Ob) W ⟨Rd.nil _ _, Rd.nil _ _, by simp, Rd.nil _ _, Rd.nil _ _, Rd.nil _ _, Rd.nil _ _⟩ ⟨hf.nm, by simp, zlt, zlt, by simp, zlt, by simp, zlt, by simp, zlt, zlt⟩ (Nat.le_refl 0)))
  have HLE := Lib.hid (less_all o)
  obtain ⟨r0, hr0⟩ : ∃ r, checkF o = r := ⟨_, rfl⟩
  have hr0' : checkF (⟨o.name, o.needs, o.segs, o.syms, o.rels, o.init, o.fini, o.na, o.nc, o.ga, o.gc, o.sa, o.sc, o.ra, o.rc, o.ia, o.ic, o.fa, o.fc⟩ : Ob) = r0 := hr0
  rw [hr0'] at HC0
  rw [hr0] at HLE
  clear hr hf hnc hr0 hr0'
  unfold objV
  rw [show (objC o).toArray = #[.string ⟨o.name.toArray⟩, .slice o.na o.needs.length o.nc, .slice o.ga o.segs.length o.gc, .slice o.sa o.syms.length o.sc, .slice o.ra o.rels.length o.rc, .slice o.ia o.init.length o.ic, .slice o.fa o.fini.length o.fc] from rfl]
  go_enter Try.func6, Try.ntmps6
  go_wp2_with fail
  obtain ⟨W0, hW0⟩ : ∃ W0, w.alloc (.cells #[.string ⟨o.name.toArray⟩, .slice o.na o.needs.length o.nc, .slice o.ga o.segs.length o.gc, .slice o.sa o.syms.length o.sc, .slice o.ra o.rels.length o.rc, .slice o.ia o.init.length o.ic, .slice o.fa o.fini.length o.fc] 30) = W0 := ⟨_, rfl⟩
  have HB := Lib.hid (show Below w.heap.size w W0 by rw [← hW0]; exact bAlloc (Below.refl _ _) _)
  have HX := Lib.hid (show BoxN W0 w.heap.size #[.string ⟨o.name.toArray⟩, .slice o.na o.needs.length o.nc, .slice o.ga o.segs.length o.gc, .slice o.sa o.syms.length o.sc, .slice o.ra o.rels.length o.rc, .slice o.ia o.init.length o.ic, .slice o.fa o.fini.length o.fc] by rw [← hW0]; exact BoxN.new w _ _)
  rw [hW0]
  clear hW0
  refine (awake_any _).mono ?_; rintro e W1 ⟨rfl, hb⟩
  have HX := Lib.hid (HX.out.below hb HX.out.lt)
  have HB := Lib.hid (bTrans HB.out hb)
  clear hb
  have y0 : W1.cell? ⟨w.heap.size, 0, none⟩ = some (.string ⟨o.name.toArray⟩) := HX.out.cell 0
  have z0 : W1.frozen? ⟨w.heap.size, 0, none⟩ = false := HX.out.frozen 0
  have y1 : W1.cell? ⟨w.heap.size, 1, none⟩ = some (.slice o.na o.needs.length o.nc) := HX.out.cell 1
  have z1 : W1.frozen? ⟨w.heap.size, 1, none⟩ = false := HX.out.frozen 1
  have y2 : W1.cell? ⟨w.heap.size, 2, none⟩ = some (.slice o.ga o.segs.length o.gc) := HX.out.cell 2
  have z2 : W1.frozen? ⟨w.heap.size, 2, none⟩ = false := HX.out.frozen 2
  have y3 : W1.cell? ⟨w.heap.size, 3, none⟩ = some (.slice o.sa o.syms.length o.sc) := HX.out.cell 3
  have z3 : W1.frozen? ⟨w.heap.size, 3, none⟩ = false := HX.out.frozen 3
  have y4 : W1.cell? ⟨w.heap.size, 4, none⟩ = some (.slice o.ra o.rels.length o.rc) := HX.out.cell 4
  have z4 : W1.frozen? ⟨w.heap.size, 4, none⟩ = false := HX.out.frozen 4
  have y5 : W1.cell? ⟨w.heap.size, 5, none⟩ = some (.slice o.ia o.init.length o.ic) := HX.out.cell 5
  have z5 : W1.frozen? ⟨w.heap.size, 5, none⟩ = false := HX.out.frozen 5
  have y6 : W1.cell? ⟨w.heap.size, 6, none⟩ = some (.slice o.fa o.fini.length o.fc) := HX.out.cell 6
  have z6 : W1.frozen? ⟨w.heap.size, 6, none⟩ = false := HX.out.frozen 6
  go_wp2_with fail
  refine (HC0.out W1 HB.out).mono ?_; rintro e W2 ⟨rfl, hb⟩
  have HX := Lib.hid (HX.out.below hb HX.out.lt)
  have HB := Lib.hid (bTrans HB.out hb)
  clear hb
  clear y0 z0 y1 z1 y2 z2 y3 z3 y4 z4 y5 z5 y6 z6
  by_cases h0 : r0 = 0
  · subst h0
    obtain ⟨e1, e2, e3, e4, e5⟩ := HLE.out rfl
    rw [e1] at HC1
    rw [e2] at HC2
    rw [e3] at HC3
    rw [e4] at HC4
    rw [e5] at HC5
    clear e1 e2 e3 e4 e5
    have y0 : W2.cell? ⟨w.heap.size, 0, none⟩ = some (.string ⟨o.name.toArray⟩) := HX.out.cell 0
    have z0 : W2.frozen? ⟨w.heap.size, 0, none⟩ = false := HX.out.frozen 0
    have y1 : W2.cell? ⟨w.heap.size, 1, none⟩ = some (.slice o.na o.needs.length o.nc) := HX.out.cell 1
    have z1 : W2.frozen? ⟨w.heap.size, 1, none⟩ = false := HX.out.frozen 1
    have y2 : W2.cell? ⟨w.heap.size, 2, none⟩ = some (.slice o.ga o.segs.length o.gc) := HX.out.cell 2
    have z2 : W2.frozen? ⟨w.heap.size, 2, none⟩ = false := HX.out.frozen 2
    have y3 : W2.cell? ⟨w.heap.size, 3, none⟩ = some (.slice o.sa o.syms.length o.sc) := HX.out.cell 3
    have z3 : W2.frozen? ⟨w.heap.size, 3, none⟩ = false := HX.out.frozen 3
    have y4 : W2.cell? ⟨w.heap.size, 4, none⟩ = some (.slice o.ra o.rels.length o.rc) := HX.out.cell 4
    have z4 : W2.frozen? ⟨w.heap.size, 4, none⟩ = false := HX.out.frozen 4
    have y5 : W2.cell? ⟨w.heap.size, 5, none⟩ = some (.slice o.ia o.init.length o.ic) := HX.out.cell 5
    have z5 : W2.frozen? ⟨w.heap.size, 5, none⟩ = false := HX.out.frozen 5
    have y6 : W2.cell? ⟨w.heap.size, 6, none⟩ = some (.slice o.fa o.fini.length o.fc) := HX.out.cell 6
    have z6 : W2.frozen? ⟨w.heap.size, 6, none⟩ = false := HX.out.frozen 6
    go_upto_region 6 with fail
    have HX := Lib.hid (show BoxN (W2.setCell ⟨w.heap.size, 4, none⟩ (.slice none 0 0)) w.heap.size #[.string ⟨o.name.toArray⟩, .slice o.na o.needs.length o.nc, .slice o.ga o.segs.length o.gc, .slice o.sa o.syms.length o.sc, .slice none 0 0, .slice o.ia o.init.length o.ic, .slice o.fa o.fini.length o.fc] from (HX.out.set 4 (.slice none 0 0)))
    have HB := Lib.hid (show Below w.heap.size w (W2.setCell ⟨w.heap.size, 4, none⟩ (.slice none 0 0)) from (below_set HB.out (Nat.le_refl _) (.slice none 0 0)))
    obtain ⟨V1, hV⟩ : ∃ V, (W2.setCell ⟨w.heap.size, 4, none⟩ (.slice none 0 0)) = V := ⟨_, rfl⟩
    rw [hV] at HX HB ⊢
    clear hV
    clear y0 z0 y1 z1 y2 z2 y3 z3 y4 z4 y5 z5 y6 z6
    have y0 : V1.cell? ⟨w.heap.size, 0, none⟩ = some (.string ⟨o.name.toArray⟩) := HX.out.cell 0
    have z0 : V1.frozen? ⟨w.heap.size, 0, none⟩ = false := HX.out.frozen 0
    have y1 : V1.cell? ⟨w.heap.size, 1, none⟩ = some (.slice o.na o.needs.length o.nc) := HX.out.cell 1
    have z1 : V1.frozen? ⟨w.heap.size, 1, none⟩ = false := HX.out.frozen 1
    have y2 : V1.cell? ⟨w.heap.size, 2, none⟩ = some (.slice o.ga o.segs.length o.gc) := HX.out.cell 2
    have z2 : V1.frozen? ⟨w.heap.size, 2, none⟩ = false := HX.out.frozen 2
    have y3 : V1.cell? ⟨w.heap.size, 3, none⟩ = some (.slice o.sa o.syms.length o.sc) := HX.out.cell 3
    have z3 : V1.frozen? ⟨w.heap.size, 3, none⟩ = false := HX.out.frozen 3
    have y4 : V1.cell? ⟨w.heap.size, 4, none⟩ = some (.slice none 0 0) := HX.out.cell 4
    have z4 : V1.frozen? ⟨w.heap.size, 4, none⟩ = false := HX.out.frozen 4
    have y5 : V1.cell? ⟨w.heap.size, 5, none⟩ = some (.slice o.ia o.init.length o.ic) := HX.out.cell 5
    have z5 : V1.frozen? ⟨w.heap.size, 5, none⟩ = false := HX.out.frozen 5
    have y6 : V1.cell? ⟨w.heap.size, 6, none⟩ = some (.slice o.fa o.fini.length o.fc) := HX.out.cell 6
    have z6 : V1.frozen? ⟨w.heap.size, 6, none⟩ = false := HX.out.frozen 6
    go_wp2_with fail
    refine (HC1.out V1 HB.out).mono ?_; rintro e U1 ⟨rfl, hb⟩
    have HX := Lib.hid (HX.out.below hb HX.out.lt)
    have HB := Lib.hid (bTrans HB.out hb)
    clear hb
    clear y0 z0 y1 z1 y2 z2 y3 z3 y4 z4 y5 z5 y6 z6
    have y0 : U1.cell? ⟨w.heap.size, 0, none⟩ = some (.string ⟨o.name.toArray⟩) := HX.out.cell 0
    have z0 : U1.frozen? ⟨w.heap.size, 0, none⟩ = false := HX.out.frozen 0
    have y1 : U1.cell? ⟨w.heap.size, 1, none⟩ = some (.slice o.na o.needs.length o.nc) := HX.out.cell 1
    have z1 : U1.frozen? ⟨w.heap.size, 1, none⟩ = false := HX.out.frozen 1
    have y2 : U1.cell? ⟨w.heap.size, 2, none⟩ = some (.slice o.ga o.segs.length o.gc) := HX.out.cell 2
    have z2 : U1.frozen? ⟨w.heap.size, 2, none⟩ = false := HX.out.frozen 2
    have y3 : U1.cell? ⟨w.heap.size, 3, none⟩ = some (.slice o.sa o.syms.length o.sc) := HX.out.cell 3
    have z3 : U1.frozen? ⟨w.heap.size, 3, none⟩ = false := HX.out.frozen 3
    have y4 : U1.cell? ⟨w.heap.size, 4, none⟩ = some (.slice none 0 0) := HX.out.cell 4
    have z4 : U1.frozen? ⟨w.heap.size, 4, none⟩ = false := HX.out.frozen 4
    have y5 : U1.cell? ⟨w.heap.size, 5, none⟩ = some (.slice o.ia o.init.length o.ic) := HX.out.cell 5
    have z5 : U1.frozen? ⟨w.heap.size, 5, none⟩ = false := HX.out.frozen 5
    have y6 : U1.cell? ⟨w.heap.size, 6, none⟩ = some (.slice o.fa o.fini.length o.fc) := HX.out.cell 6
    have z6 : U1.frozen? ⟨w.heap.size, 6, none⟩ = false := HX.out.frozen 6
    go_upto_region 9 with fail
    have HX := Lib.hid (show BoxN ((U1.setCell ⟨w.heap.size, 5, none⟩ (.slice none 0 0)).setCell ⟨w.heap.size, 6, none⟩ (.slice none 0 0)) w.heap.size #[.string ⟨o.name.toArray⟩, .slice o.na o.needs.length o.nc, .slice o.ga o.segs.length o.gc, .slice o.sa o.syms.length o.sc, .slice none 0 0, .slice none 0 0, .slice none 0 0] from ((HX.out.set 5 (.slice none 0 0)).set 6 (.slice none 0 0)))
    have HB := Lib.hid (show Below w.heap.size w ((U1.setCell ⟨w.heap.size, 5, none⟩ (.slice none 0 0)).setCell ⟨w.heap.size, 6, none⟩ (.slice none 0 0)) from (below_set (below_set HB.out (Nat.le_refl _) (.slice none 0 0)) (Nat.le_refl _) (.slice none 0 0)))
    obtain ⟨V2, hV⟩ : ∃ V, ((U1.setCell ⟨w.heap.size, 5, none⟩ (.slice none 0 0)).setCell ⟨w.heap.size, 6, none⟩ (.slice none 0 0)) = V := ⟨_, rfl⟩
    rw [hV] at HX HB ⊢
    clear hV
    clear y0 z0 y1 z1 y2 z2 y3 z3 y4 z4 y5 z5 y6 z6
    have y0 : V2.cell? ⟨w.heap.size, 0, none⟩ = some (.string ⟨o.name.toArray⟩) := HX.out.cell 0
    have z0 : V2.frozen? ⟨w.heap.size, 0, none⟩ = false := HX.out.frozen 0
    have y1 : V2.cell? ⟨w.heap.size, 1, none⟩ = some (.slice o.na o.needs.length o.nc) := HX.out.cell 1
    have z1 : V2.frozen? ⟨w.heap.size, 1, none⟩ = false := HX.out.frozen 1
    have y2 : V2.cell? ⟨w.heap.size, 2, none⟩ = some (.slice o.ga o.segs.length o.gc) := HX.out.cell 2
    have z2 : V2.frozen? ⟨w.heap.size, 2, none⟩ = false := HX.out.frozen 2
    have y3 : V2.cell? ⟨w.heap.size, 3, none⟩ = some (.slice o.sa o.syms.length o.sc) := HX.out.cell 3
    have z3 : V2.frozen? ⟨w.heap.size, 3, none⟩ = false := HX.out.frozen 3
    have y4 : V2.cell? ⟨w.heap.size, 4, none⟩ = some (.slice none 0 0) := HX.out.cell 4
    have z4 : V2.frozen? ⟨w.heap.size, 4, none⟩ = false := HX.out.frozen 4
    have y5 : V2.cell? ⟨w.heap.size, 5, none⟩ = some (.slice none 0 0) := HX.out.cell 5
    have z5 : V2.frozen? ⟨w.heap.size, 5, none⟩ = false := HX.out.frozen 5
    have y6 : V2.cell? ⟨w.heap.size, 6, none⟩ = some (.slice none 0 0) := HX.out.cell 6
    have z6 : V2.frozen? ⟨w.heap.size, 6, none⟩ = false := HX.out.frozen 6
    go_wp2_with fail
    refine (HC2.out V2 HB.out).mono ?_; rintro e U2 ⟨rfl, hb⟩
    have HX := Lib.hid (HX.out.below hb HX.out.lt)
    have HB := Lib.hid (bTrans HB.out hb)
    clear hb
    clear y0 z0 y1 z1 y2 z2 y3 z3 y4 z4 y5 z5 y6 z6
    have y0 : U2.cell? ⟨w.heap.size, 0, none⟩ = some (.string ⟨o.name.toArray⟩) := HX.out.cell 0
    have z0 : U2.frozen? ⟨w.heap.size, 0, none⟩ = false := HX.out.frozen 0
    have y1 : U2.cell? ⟨w.heap.size, 1, none⟩ = some (.slice o.na o.needs.length o.nc) := HX.out.cell 1
    have z1 : U2.frozen? ⟨w.heap.size, 1, none⟩ = false := HX.out.frozen 1
    have y2 : U2.cell? ⟨w.heap.size, 2, none⟩ = some (.slice o.ga o.segs.length o.gc) := HX.out.cell 2
    have z2 : U2.frozen? ⟨w.heap.size, 2, none⟩ = false := HX.out.frozen 2
    have y3 : U2.cell? ⟨w.heap.size, 3, none⟩ = some (.slice o.sa o.syms.length o.sc) := HX.out.cell 3
    have z3 : U2.frozen? ⟨w.heap.size, 3, none⟩ = false := HX.out.frozen 3
    have y4 : U2.cell? ⟨w.heap.size, 4, none⟩ = some (.slice none 0 0) := HX.out.cell 4
    have z4 : U2.frozen? ⟨w.heap.size, 4, none⟩ = false := HX.out.frozen 4
    have y5 : U2.cell? ⟨w.heap.size, 5, none⟩ = some (.slice none 0 0) := HX.out.cell 5
    have z5 : U2.frozen? ⟨w.heap.size, 5, none⟩ = false := HX.out.frozen 5
    have y6 : U2.cell? ⟨w.heap.size, 6, none⟩ = some (.slice none 0 0) := HX.out.cell 6
    have z6 : U2.frozen? ⟨w.heap.size, 6, none⟩ = false := HX.out.frozen 6
    go_upto_region 11 with fail
    have HX := Lib.hid (show BoxN (U2.setCell ⟨w.heap.size, 3, none⟩ (.slice none 0 0)) w.heap.size #[.string ⟨o.name.toArray⟩, .slice o.na o.needs.length o.nc, .slice o.ga o.segs.length o.gc, .slice none 0 0, .slice none 0 0, .slice none 0 0, .slice none 0 0] from (HX.out.set 3 (.slice none 0 0)))
    have HB := Lib.hid (show Below w.heap.size w (U2.setCell ⟨w.heap.size, 3, none⟩ (.slice none 0 0)) from (below_set HB.out (Nat.le_refl _) (.slice none 0 0)))
    obtain ⟨V3, hV⟩ : ∃ V, (U2.setCell ⟨w.heap.size, 3, none⟩ (.slice none 0 0)) = V := ⟨_, rfl⟩
    rw [hV] at HX HB ⊢
    clear hV
    clear y0 z0 y1 z1 y2 z2 y3 z3 y4 z4 y5 z5 y6 z6
    have y0 : V3.cell? ⟨w.heap.size, 0, none⟩ = some (.string ⟨o.name.toArray⟩) := HX.out.cell 0
    have z0 : V3.frozen? ⟨w.heap.size, 0, none⟩ = false := HX.out.frozen 0
    have y1 : V3.cell? ⟨w.heap.size, 1, none⟩ = some (.slice o.na o.needs.length o.nc) := HX.out.cell 1
    have z1 : V3.frozen? ⟨w.heap.size, 1, none⟩ = false := HX.out.frozen 1
    have y2 : V3.cell? ⟨w.heap.size, 2, none⟩ = some (.slice o.ga o.segs.length o.gc) := HX.out.cell 2
    have z2 : V3.frozen? ⟨w.heap.size, 2, none⟩ = false := HX.out.frozen 2
    have y3 : V3.cell? ⟨w.heap.size, 3, none⟩ = some (.slice none 0 0) := HX.out.cell 3
    have z3 : V3.frozen? ⟨w.heap.size, 3, none⟩ = false := HX.out.frozen 3
    have y4 : V3.cell? ⟨w.heap.size, 4, none⟩ = some (.slice none 0 0) := HX.out.cell 4
    have z4 : V3.frozen? ⟨w.heap.size, 4, none⟩ = false := HX.out.frozen 4
    have y5 : V3.cell? ⟨w.heap.size, 5, none⟩ = some (.slice none 0 0) := HX.out.cell 5
    have z5 : V3.frozen? ⟨w.heap.size, 5, none⟩ = false := HX.out.frozen 5
    have y6 : V3.cell? ⟨w.heap.size, 6, none⟩ = some (.slice none 0 0) := HX.out.cell 6
    have z6 : V3.frozen? ⟨w.heap.size, 6, none⟩ = false := HX.out.frozen 6
    go_wp2_with fail
    refine (HC3.out V3 HB.out).mono ?_; rintro e U3 ⟨rfl, hb⟩
    have HX := Lib.hid (HX.out.below hb HX.out.lt)
    have HB := Lib.hid (bTrans HB.out hb)
    clear hb
    clear y0 z0 y1 z1 y2 z2 y3 z3 y4 z4 y5 z5 y6 z6
    have y0 : U3.cell? ⟨w.heap.size, 0, none⟩ = some (.string ⟨o.name.toArray⟩) := HX.out.cell 0
    have z0 : U3.frozen? ⟨w.heap.size, 0, none⟩ = false := HX.out.frozen 0
    have y1 : U3.cell? ⟨w.heap.size, 1, none⟩ = some (.slice o.na o.needs.length o.nc) := HX.out.cell 1
    have z1 : U3.frozen? ⟨w.heap.size, 1, none⟩ = false := HX.out.frozen 1
    have y2 : U3.cell? ⟨w.heap.size, 2, none⟩ = some (.slice o.ga o.segs.length o.gc) := HX.out.cell 2
    have z2 : U3.frozen? ⟨w.heap.size, 2, none⟩ = false := HX.out.frozen 2
    have y3 : U3.cell? ⟨w.heap.size, 3, none⟩ = some (.slice none 0 0) := HX.out.cell 3
    have z3 : U3.frozen? ⟨w.heap.size, 3, none⟩ = false := HX.out.frozen 3
    have y4 : U3.cell? ⟨w.heap.size, 4, none⟩ = some (.slice none 0 0) := HX.out.cell 4
    have z4 : U3.frozen? ⟨w.heap.size, 4, none⟩ = false := HX.out.frozen 4
    have y5 : U3.cell? ⟨w.heap.size, 5, none⟩ = some (.slice none 0 0) := HX.out.cell 5
    have z5 : U3.frozen? ⟨w.heap.size, 5, none⟩ = false := HX.out.frozen 5
    have y6 : U3.cell? ⟨w.heap.size, 6, none⟩ = some (.slice none 0 0) := HX.out.cell 6
    have z6 : U3.frozen? ⟨w.heap.size, 6, none⟩ = false := HX.out.frozen 6
    go_upto_region 13 with fail
    have HX := Lib.hid (show BoxN (U3.setCell ⟨w.heap.size, 2, none⟩ (.slice none 0 0)) w.heap.size #[.string ⟨o.name.toArray⟩, .slice o.na o.needs.length o.nc, .slice none 0 0, .slice none 0 0, .slice none 0 0, .slice none 0 0, .slice none 0 0] from (HX.out.set 2 (.slice none 0 0)))
    have HB := Lib.hid (show Below w.heap.size w (U3.setCell ⟨w.heap.size, 2, none⟩ (.slice none 0 0)) from (below_set HB.out (Nat.le_refl _) (.slice none 0 0)))
    obtain ⟨V4, hV⟩ : ∃ V, (U3.setCell ⟨w.heap.size, 2, none⟩ (.slice none 0 0)) = V := ⟨_, rfl⟩
    rw [hV] at HX HB ⊢
    clear hV
    clear y0 z0 y1 z1 y2 z2 y3 z3 y4 z4 y5 z5 y6 z6
    have y0 : V4.cell? ⟨w.heap.size, 0, none⟩ = some (.string ⟨o.name.toArray⟩) := HX.out.cell 0
    have z0 : V4.frozen? ⟨w.heap.size, 0, none⟩ = false := HX.out.frozen 0
    have y1 : V4.cell? ⟨w.heap.size, 1, none⟩ = some (.slice o.na o.needs.length o.nc) := HX.out.cell 1
    have z1 : V4.frozen? ⟨w.heap.size, 1, none⟩ = false := HX.out.frozen 1
    have y2 : V4.cell? ⟨w.heap.size, 2, none⟩ = some (.slice none 0 0) := HX.out.cell 2
    have z2 : V4.frozen? ⟨w.heap.size, 2, none⟩ = false := HX.out.frozen 2
    have y3 : V4.cell? ⟨w.heap.size, 3, none⟩ = some (.slice none 0 0) := HX.out.cell 3
    have z3 : V4.frozen? ⟨w.heap.size, 3, none⟩ = false := HX.out.frozen 3
    have y4 : V4.cell? ⟨w.heap.size, 4, none⟩ = some (.slice none 0 0) := HX.out.cell 4
    have z4 : V4.frozen? ⟨w.heap.size, 4, none⟩ = false := HX.out.frozen 4
    have y5 : V4.cell? ⟨w.heap.size, 5, none⟩ = some (.slice none 0 0) := HX.out.cell 5
    have z5 : V4.frozen? ⟨w.heap.size, 5, none⟩ = false := HX.out.frozen 5
    have y6 : V4.cell? ⟨w.heap.size, 6, none⟩ = some (.slice none 0 0) := HX.out.cell 6
    have z6 : V4.frozen? ⟨w.heap.size, 6, none⟩ = false := HX.out.frozen 6
    go_wp2_with fail
    refine (HC4.out V4 HB.out).mono ?_; rintro e U4 ⟨rfl, hb⟩
    have HX := Lib.hid (HX.out.below hb HX.out.lt)
    have HB := Lib.hid (bTrans HB.out hb)
    clear hb
    clear y0 z0 y1 z1 y2 z2 y3 z3 y4 z4 y5 z5 y6 z6
    have y0 : U4.cell? ⟨w.heap.size, 0, none⟩ = some (.string ⟨o.name.toArray⟩) := HX.out.cell 0
    have z0 : U4.frozen? ⟨w.heap.size, 0, none⟩ = false := HX.out.frozen 0
    have y1 : U4.cell? ⟨w.heap.size, 1, none⟩ = some (.slice o.na o.needs.length o.nc) := HX.out.cell 1
    have z1 : U4.frozen? ⟨w.heap.size, 1, none⟩ = false := HX.out.frozen 1
    have y2 : U4.cell? ⟨w.heap.size, 2, none⟩ = some (.slice none 0 0) := HX.out.cell 2
    have z2 : U4.frozen? ⟨w.heap.size, 2, none⟩ = false := HX.out.frozen 2
    have y3 : U4.cell? ⟨w.heap.size, 3, none⟩ = some (.slice none 0 0) := HX.out.cell 3
    have z3 : U4.frozen? ⟨w.heap.size, 3, none⟩ = false := HX.out.frozen 3
    have y4 : U4.cell? ⟨w.heap.size, 4, none⟩ = some (.slice none 0 0) := HX.out.cell 4
    have z4 : U4.frozen? ⟨w.heap.size, 4, none⟩ = false := HX.out.frozen 4
    have y5 : U4.cell? ⟨w.heap.size, 5, none⟩ = some (.slice none 0 0) := HX.out.cell 5
    have z5 : U4.frozen? ⟨w.heap.size, 5, none⟩ = false := HX.out.frozen 5
    have y6 : U4.cell? ⟨w.heap.size, 6, none⟩ = some (.slice none 0 0) := HX.out.cell 6
    have z6 : U4.frozen? ⟨w.heap.size, 6, none⟩ = false := HX.out.frozen 6
    go_upto_region 15 with fail
    have HX := Lib.hid (show BoxN (U4.setCell ⟨w.heap.size, 1, none⟩ (.slice none 0 0)) w.heap.size #[.string ⟨o.name.toArray⟩, .slice none 0 0, .slice none 0 0, .slice none 0 0, .slice none 0 0, .slice none 0 0, .slice none 0 0] from (HX.out.set 1 (.slice none 0 0)))
    have HB := Lib.hid (show Below w.heap.size w (U4.setCell ⟨w.heap.size, 1, none⟩ (.slice none 0 0)) from (below_set HB.out (Nat.le_refl _) (.slice none 0 0)))
    obtain ⟨V5, hV⟩ : ∃ V, (U4.setCell ⟨w.heap.size, 1, none⟩ (.slice none 0 0)) = V := ⟨_, rfl⟩
    rw [hV] at HX HB ⊢
    clear hV
    clear y0 z0 y1 z1 y2 z2 y3 z3 y4 z4 y5 z5 y6 z6
    have y0 : V5.cell? ⟨w.heap.size, 0, none⟩ = some (.string ⟨o.name.toArray⟩) := HX.out.cell 0
    have z0 : V5.frozen? ⟨w.heap.size, 0, none⟩ = false := HX.out.frozen 0
    have y1 : V5.cell? ⟨w.heap.size, 1, none⟩ = some (.slice none 0 0) := HX.out.cell 1
    have z1 : V5.frozen? ⟨w.heap.size, 1, none⟩ = false := HX.out.frozen 1
    have y2 : V5.cell? ⟨w.heap.size, 2, none⟩ = some (.slice none 0 0) := HX.out.cell 2
    have z2 : V5.frozen? ⟨w.heap.size, 2, none⟩ = false := HX.out.frozen 2
    have y3 : V5.cell? ⟨w.heap.size, 3, none⟩ = some (.slice none 0 0) := HX.out.cell 3
    have z3 : V5.frozen? ⟨w.heap.size, 3, none⟩ = false := HX.out.frozen 3
    have y4 : V5.cell? ⟨w.heap.size, 4, none⟩ = some (.slice none 0 0) := HX.out.cell 4
    have z4 : V5.frozen? ⟨w.heap.size, 4, none⟩ = false := HX.out.frozen 4
    have y5 : V5.cell? ⟨w.heap.size, 5, none⟩ = some (.slice none 0 0) := HX.out.cell 5
    have z5 : V5.frozen? ⟨w.heap.size, 5, none⟩ = false := HX.out.frozen 5
    have y6 : V5.cell? ⟨w.heap.size, 6, none⟩ = some (.slice none 0 0) := HX.out.cell 6
    have z6 : V5.frozen? ⟨w.heap.size, 6, none⟩ = false := HX.out.frozen 6
    go_wp2_with fail
    refine (HC5.out V5 HB.out).mono ?_; rintro e U5 ⟨rfl, hb⟩
    have HX := Lib.hid (HX.out.below hb HX.out.lt)
    have HB := Lib.hid (bTrans HB.out hb)
    clear hb
    clear y0 z0 y1 z1 y2 z2 y3 z3 y4 z4 y5 z5 y6 z6
    go_wp2_with fail
    go_ret
    exact ⟨rfl, HB.out⟩
  · have hn0 : (r0 != 0) = true := bne_iff_ne.2 h0
    go_wp2_with fail
    go_ret
    exact ⟨rfl, HB.out⟩
end Go.Proofs.Ytknldomgmogccaa
