/- CelfWithin: its walk. -/
import Derived.Test.YtidnojjhchmmgaaCeU
import Derived.Deep.Cut
namespace Go.Proofs.Ytidnojjhchmmgaa
set_option linter.unusedVariables false
set_option linter.unusedSimpArgs false
open Go.Joins Go.ChangeShapes Go.WideShapes Go.ChangeAt Go.RowKit Go.Deep

theorem zlt : (0 : Nat) < 9223372036854775808 := by decide
theorem check0 (o : Ob) : checkF o = 0 ↔ namesB o = true ∧ countsB o = true ∧ segsB 0 o.segs = true ∧ o.syms.all (symB o.segs) = true ∧ relsB o.segs o.syms 0 o.rels = true ∧ o.init.all (fnB o.syms) = true ∧ o.fini.all (fnB o.syms) = true := by
  unfold checkF
  cases namesB o <;> cases countsB o <;> cases segsB 0 o.segs <;> cases o.syms.all (symB o.segs) <;> cases relsB o.segs o.syms 0 o.rels <;> cases o.init.all (fnB o.syms) <;> cases o.fini.all (fnB o.syms) <;> decide
theorem counts_iff (o : Ob) : countsB o = true ↔ o.needs.length ≤ 8 ∧ o.segs.length ≤ 6 ∧ o.syms.length ≤ 40 ∧ o.rels.length ≤ 60 ∧ o.init.length ≤ 8 ∧ o.fini.length ≤ 8 := by
  unfold countsB
  simp only [Bool.and_eq_true, decide_eq_true_eq]
theorem less_all (o : Ob) (h : checkF o = 0) : checkF ⟨o.name, o.needs, o.segs, o.syms, [], o.init, o.fini, o.na, o.nc, o.ga, o.gc, o.sa, o.sc, none, 0, o.ia, o.ic, o.fa, o.fc⟩ = 0 ∧ checkF ⟨o.name, o.needs, o.segs, o.syms, [], [], [], o.na, o.nc, o.ga, o.gc, o.sa, o.sc, none, 0, none, 0, none, 0⟩ = 0 ∧ checkF ⟨o.name, o.needs, o.segs, [], [], [], [], o.na, o.nc, o.ga, o.gc, none, 0, none, 0, none, 0, none, 0⟩ = 0 ∧ checkF ⟨o.name, o.needs, [], [], [], [], [], o.na, o.nc, none, 0, none, 0, none, 0, none, 0, none, 0⟩ = 0 ∧ checkF ⟨o.name, [], [], [], [], [], [], none, 0, none, 0, none, 0, none, 0, none, 0, none, 0⟩ = 0 := by
  obtain ⟨h1, h2, h3, h4, h5, h6, h7⟩ := (check0 o).1 h
  obtain ⟨c1, c2, c3, c4, c5, c6⟩ := (counts_iff o).1 h2
  have hn : nameB o.name = true := by
    unfold namesB at h1
    rw [Bool.and_eq_true] at h1
    exact h1.1
  exact ⟨(check0 _).2 ⟨h1, ((counts_iff _).2 ⟨c1, c2, c3, by simp, c5, c6⟩), h3, h4, rfl, h6, h7⟩,
    (check0 _).2 ⟨h1, ((counts_iff _).2 ⟨c1, c2, c3, by simp, by simp, by simp⟩), h3, h4, rfl, rfl, rfl⟩,
    (check0 _).2 ⟨h1, ((counts_iff _).2 ⟨c1, c2, by simp, by simp, by simp, by simp⟩), h3, rfl, rfl, rfl, rfl⟩,
    (check0 _).2 ⟨h1, ((counts_iff _).2 ⟨c1, by simp, by simp, by simp, by simp, by simp⟩), rfl, rfl, rfl, rfl, rfl⟩,
    (check0 _).2 ⟨(by show (nameB o.name && needsB o.name [] 0) = true; rw [hn]; rfl), ((counts_iff _).2 ⟨by simp, by simp, by simp, by simp, by simp, by simp⟩), rfl, rfl, rfl, rfl, rfl⟩⟩
end Go.Proofs.Ytidnojjhchmmgaa
