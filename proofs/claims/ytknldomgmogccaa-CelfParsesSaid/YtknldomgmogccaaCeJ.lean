/- The contract of Check. -/
import Derived.Test.YtknldomgmogccaaCeI
namespace Go.Proofs.Ytknldomgmogccaa
set_option linter.unusedVariables false
set_option linter.unusedSimpArgs false
open Go.Joins Go.ChangeShapes Go.WideShapes Go.ChangeAt Go.RowKit

/-- the seven cells of an object's box -/
theorem box7 {w W : World} {o : Ob} {t : TypeId} (h : Below (w.alloc (.cells (objC o).toArray t)).heap.size (w.alloc (.cells (objC o).toArray t)) W) (j : Nat) : W.cell? ⟨w.heap.size, j, none⟩ = (objC o)[j]? := by
  have := boxed h j
  rw [this]
  simp
theorem ck1_any (O : Nat) (o : Ob) (s : Sym) (W : World) (hb : ∀ j, W.cell? ⟨O, j, none⟩ = (objC o)[j]?) (hO : O < W.heap.size) (hr : RdOb W o) (hf : FitOb o) (hsb : segsB 0 o.segs = true) (hs : s ∈ o.syms) :
    Calls Try.prog 29 #[.agg #[.string ⟨s.name.toArray⟩, .string ⟨s.ver.toArray⟩, .int .u64 s.place, .int .u64 s.size, .int .i64 s.kind, .int .i64 s.bind, .int .i64 s.seen, .bool s.defd], .pointer (some ⟨O, 0, none⟩)] W fun e W' => e = .returned (.bool (symB o.segs s)) ∧ Below W.heap.size W W' := by
  have HC := Lib.hid (fun W' (h : Below W.heap.size W W') => sym_any (.string ⟨o.name.toArray⟩) (.slice o.na o.needs.length o.nc) (.slice o.sa o.syms.length o.sc) (.slice o.ra o.rels.length o.rc) (.slice o.ia o.init.length o.ic) (.slice o.fa o.fini.length o.fc) o.ga o.segs.length o.gc o.segs s W' rfl (hr.sg.below h) hf.sgl hsb (fun x hx => ⟨(hf.sg x hx).1, (hf.sg x hx).2.1⟩) (hf.sy s hs))
  obtain ⟨q, hq⟩ : ∃ q, symB o.segs s = q := ⟨_, rfl⟩
  rw [hq] at HC ⊢
  have hbA : ∀ (x : Obj) j, (W.alloc x).cell? ⟨O, j, none⟩ = (objC o)[j]? := fun x j => ((bAlloc (Below.refl W.heap.size W) x).cell (p := ⟨O, j, none⟩) hO).trans (hb j)
  obtain ⟨vs, hvs⟩ : ∃ vs, Obj.cells #[.string ⟨s.name.toArray⟩, .string ⟨s.ver.toArray⟩, .int .u64 s.place, .int .u64 s.size, .int .i64 s.kind, .int .i64 s.bind, .int .i64 s.seen, .bool s.defd] 42 (0, 0) = vs := ⟨_, rfl⟩
  have d0 : (W.alloc (.cells #[.string ⟨s.name.toArray⟩, .string ⟨s.ver.toArray⟩, .int .u64 s.place, .int .u64 s.size, .int .i64 s.kind, .int .i64 s.bind, .int .i64 s.seen, .bool s.defd] 42)).cell? ⟨O, 0, none⟩ = some (.string ⟨o.name.toArray⟩) := hbA _ 0
  have d1 : (W.alloc (.cells #[.string ⟨s.name.toArray⟩, .string ⟨s.ver.toArray⟩, .int .u64 s.place, .int .u64 s.size, .int .i64 s.kind, .int .i64 s.bind, .int .i64 s.seen, .bool s.defd] 42)).cell? ⟨O, 1, none⟩ = some (.slice o.na o.needs.length o.nc) := hbA _ 1
  have d2 : (W.alloc (.cells #[.string ⟨s.name.toArray⟩, .string ⟨s.ver.toArray⟩, .int .u64 s.place, .int .u64 s.size, .int .i64 s.kind, .int .i64 s.bind, .int .i64 s.seen, .bool s.defd] 42)).cell? ⟨O, 2, none⟩ = some (.slice o.ga o.segs.length o.gc) := hbA _ 2
  have d3 : (W.alloc (.cells #[.string ⟨s.name.toArray⟩, .string ⟨s.ver.toArray⟩, .int .u64 s.place, .int .u64 s.size, .int .i64 s.kind, .int .i64 s.bind, .int .i64 s.seen, .bool s.defd] 42)).cell? ⟨O, 3, none⟩ = some (.slice o.sa o.syms.length o.sc) := hbA _ 3
  have d4 : (W.alloc (.cells #[.string ⟨s.name.toArray⟩, .string ⟨s.ver.toArray⟩, .int .u64 s.place, .int .u64 s.size, .int .i64 s.kind, .int .i64 s.bind, .int .i64 s.seen, .bool s.defd] 42)).cell? ⟨O, 4, none⟩ = some (.slice o.ra o.rels.length o.rc) := hbA _ 4
  have d5 : (W.alloc (.cells #[.string ⟨s.name.toArray⟩, .string ⟨s.ver.toArray⟩, .int .u64 s.place, .int .u64 s.size, .int .i64 s.kind, .int .i64 s.bind, .int .i64 s.seen, .bool s.defd] 42)).cell? ⟨O, 5, none⟩ = some (.slice o.ia o.init.length o.ic) := hbA _ 5
  have d6 : (W.alloc (.cells #[.string ⟨s.name.toArray⟩, .string ⟨s.ver.toArray⟩, .int .u64 s.place, .int .u64 s.size, .int .i64 s.kind, .int .i64 s.bind, .int .i64 s.seen, .bool s.defd] 42)).cell? ⟨O, 6, none⟩ = some (.slice o.fa o.fini.length o.fc) := hbA _ 6
  clear hq hr hf hsb hs hbA hb hvs vs
  go_enter Try.func29, Try.ntmps29
  go_wp2_with fail
  refine (HC.out _ (bAlloc (Below.refl _ _) _)).mono ?_; rintro e w' ⟨rfl, hb'⟩
  have HB' := Lib.hid (bTrans (bAlloc (Below.refl _ _) _) hb')
  clear hb'
  go_wp2_with fail
  go_ret
  exact ⟨rfl, HB'.out⟩
theorem ck2_any (O : Nat) (o : Ob) (n : Int) (W : World) (hb : ∀ j, W.cell? ⟨O, j, none⟩ = (objC o)[j]?) (hr : RdOb W o) (hf : FitOb o) :
    Calls Try.prog 33 #[.int .i64 n, .pointer (some ⟨O, 0, none⟩)] W fun e W' => e = .returned (.bool (fnB o.syms n)) ∧ Below W.heap.size W W' := by
  have HC := Lib.hid (fn_any (.string ⟨o.name.toArray⟩) (.slice o.na o.needs.length o.nc) (.slice o.ga o.segs.length o.gc) (.slice o.ra o.rels.length o.rc) (.slice o.ia o.init.length o.ic) (.slice o.fa o.fini.length o.fc) o.sa o.syms.length o.sc o.syms n W rfl hr.sy hf.syl)
  obtain ⟨q, hq⟩ : ∃ q, fnB o.syms n = q := ⟨_, rfl⟩
  rw [hq] at HC ⊢
  have d0 : W.cell? ⟨O, 0, none⟩ = some (.string ⟨o.name.toArray⟩) := hb 0
  have d1 : W.cell? ⟨O, 1, none⟩ = some (.slice o.na o.needs.length o.nc) := hb 1
  have d2 : W.cell? ⟨O, 2, none⟩ = some (.slice o.ga o.segs.length o.gc) := hb 2
  have d3 : W.cell? ⟨O, 3, none⟩ = some (.slice o.sa o.syms.length o.sc) := hb 3
  have d4 : W.cell? ⟨O, 4, none⟩ = some (.slice o.ra o.rels.length o.rc) := hb 4
  have d5 : W.cell? ⟨O, 5, none⟩ = some (.slice o.ia o.init.length o.ic) := hb 5
  have d6 : W.cell? ⟨O, 6, none⟩ = some (.slice o.fa o.fini.length o.fc) := hb 6
  clear hq hr hf hb
  go_enter Try.func33, Try.ntmps33
  go_wp2_with fail
  refine HC.out.mono ?_; rintro e w' ⟨rfl, hb'⟩
  have HB' := Lib.hid hb'
  clear hb'
  go_wp2_with fail
  go_ret
  exact ⟨rfl, HB'.out⟩
theorem ck3_any (O : Nat) (o : Ob) (n : Int) (W : World) (hb : ∀ j, W.cell? ⟨O, j, none⟩ = (objC o)[j]?) (hr : RdOb W o) (hf : FitOb o) :
    Calls Try.prog 35 #[.int .i64 n, .pointer (some ⟨O, 0, none⟩)] W fun e W' => e = .returned (.bool (fnB o.syms n)) ∧ Below W.heap.size W W' := by
  have HC := Lib.hid (fn_any (.string ⟨o.name.toArray⟩) (.slice o.na o.needs.length o.nc) (.slice o.ga o.segs.length o.gc) (.slice o.ra o.rels.length o.rc) (.slice o.ia o.init.length o.ic) (.slice o.fa o.fini.length o.fc) o.sa o.syms.length o.sc o.syms n W rfl hr.sy hf.syl)
  obtain ⟨q, hq⟩ : ∃ q, fnB o.syms n = q := ⟨_, rfl⟩
  rw [hq] at HC ⊢
  have d0 : W.cell? ⟨O, 0, none⟩ = some (.string ⟨o.name.toArray⟩) := hb 0
  have d1 : W.cell? ⟨O, 1, none⟩ = some (.slice o.na o.needs.length o.nc) := hb 1
  have d2 : W.cell? ⟨O, 2, none⟩ = some (.slice o.ga o.segs.length o.gc) := hb 2
  have d3 : W.cell? ⟨O, 3, none⟩ = some (.slice o.sa o.syms.length o.sc) := hb 3
  have d4 : W.cell? ⟨O, 4, none⟩ = some (.slice o.ra o.rels.length o.rc) := hb 4
  have d5 : W.cell? ⟨O, 5, none⟩ = some (.slice o.ia o.init.length o.ic) := hb 5
  have d6 : W.cell? ⟨O, 6, none⟩ = some (.slice o.fa o.fini.length o.fc) := hb 6
  clear hq hr hf hb
  go_enter Try.func35, Try.ntmps35
  go_wp2_with fail
  refine HC.out.mono ?_; rintro e w' ⟨rfl, hb'⟩
  have HB' := Lib.hid hb'
  clear hb'
  go_wp2_with fail
  go_ret
  exact ⟨rfl, HB'.out⟩
set_option maxHeartbeats 2000000 in
theorem check_any (o : Ob) (w : World) (hr : RdOb w o) (hf : FitOb o) (hnc : o.needs.length ≤ o.nc) :
    Calls Try.prog 12 #[objV o] w fun e w' => e = .returned (.int .i64 (checkF o)) ∧ Below w.heap.size w w' := by
  obtain ⟨r, hrr⟩ : ∃ r, checkF o = r := ⟨_, rfl⟩
  rw [hrr]
  have HR := Lib.hid hrr
  have HRD := Lib.hid (fun W (hW : Below w.heap.size w W) => hr.below hW)
  have HNM := Lib.hid (fun W (hW : Below w.heap.size w W) => names_any (.slice o.ga o.segs.length o.gc) (.slice o.sa o.syms.length o.sc) (.slice o.ra o.rels.length o.rc) (.slice o.ia o.init.length o.ic) (.slice o.fa o.fini.length o.fc) o.na o.needs.length o.nc o.name o.needs W rfl (hr.nd.below hW) hnc hf.ndl hf.nm hf.nd)
  have HCN := Lib.hid (fun W => counts_any (.string ⟨o.name.toArray⟩) o.na o.ga o.sa o.ra o.ia o.fa o.needs.length o.nc o.segs.length o.gc o.syms.length o.sc o.rels.length o.rc o.init.length o.ic o.fini.length o.fc W)
  have HSG := Lib.hid (fun W (hW : Below w.heap.size w W) => segs_any o.ga o.segs.length o.gc o.segs W rfl (hr.sg.below hW) hf.sgl hf.sg)
  have HA1 := Lib.hid (fun (hsb : segsB 0 o.segs = true) W (hW : Below w.heap.size w W) O (hO : O < W.heap.size) (hb : ∀ j, W.cell? ⟨O, j, none⟩ = (objC o)[j]?) => allSym O o.sa o.syms.length o.sc o.syms (symB o.segs) W rfl (hr.sy.below hW) hf.syl (fun W' hW' s hs => ck1_any O o s W' (fun j => (hW'.cell (p := ⟨O, j, none⟩) hO).trans (hb j)) (Nat.lt_of_lt_of_le hO hW'.size) (hr.below (bTrans hW hW')) hf hsb hs))
  have HRL := Lib.hid (fun (hsb : segsB 0 o.segs = true) W (hW : Below w.heap.size w W) => relocs_any (.string ⟨o.name.toArray⟩) (.slice o.na o.needs.length o.nc) (.slice o.ia o.init.length o.ic) (.slice o.fa o.fini.length o.fc) o.ga o.sa o.ra o.segs.length o.gc o.syms.length o.sc o.rels.length o.rc o.segs o.syms o.rels W rfl rfl rfl (hr.sg.below hW) (hr.sy.below hW) (hr.rl.below hW) hf.sgl hf.syl hf.rll hsb (fun x hx => ⟨(hf.sg x hx).1, (hf.sg x hx).2.1⟩) hf.rl)
  have HA2 := Lib.hid (fun W (hW : Below w.heap.size w W) O (hO : O < W.heap.size) (hb : ∀ j, W.cell? ⟨O, j, none⟩ = (objC o)[j]?) => allInt2 O o.ia o.init.length o.ic o.init (fnB o.syms) W rfl (hr.ini.below hW) hf.inl (fun W' hW' s hs => ck2_any O o s W' (fun j => (hW'.cell (p := ⟨O, j, none⟩) hO).trans (hb j)) (hr.below (bTrans hW hW')) hf))
  have HA3 := Lib.hid (fun W (hW : Below w.heap.size w W) O (hO : O < W.heap.size) (hb : ∀ j, W.cell? ⟨O, j, none⟩ = (objC o)[j]?) => allInt3 O o.fa o.fini.length o.fc o.fini (fnB o.syms) W rfl (hr.fin.below hW) hf.fil (fun W' hW' s hs => ck3_any O o s W' (fun j => (hW'.cell (p := ⟨O, j, none⟩) hO).trans (hb j)) (hr.below (bTrans hW hW')) hf))
  have hqc : (decide (o.needs.length ≤ 8) && (decide (o.segs.length ≤ 6) && (decide (o.syms.length ≤ 40) && (decide (o.rels.length ≤ 60) && (decide (o.init.length ≤ 8) && decide (o.fini.length ≤ 8)))))) = countsB o := rfl
  rw [hqc] at HCN
  have hqn : (nameB o.name && needsB o.name o.needs 0) = namesB o := rfl
  rw [hqn] at HNM
  unfold checkF at HR
  obtain ⟨q1, hq1⟩ : ∃ q, namesB o = q := ⟨_, rfl⟩
  obtain ⟨q2, hq2⟩ : ∃ q, countsB o = q := ⟨_, rfl⟩
  obtain ⟨q3, hq3⟩ : ∃ q, segsB 0 o.segs = q := ⟨_, rfl⟩
  obtain ⟨q4, hq4⟩ : ∃ q, o.syms.all (symB o.segs) = q := ⟨_, rfl⟩
  obtain ⟨q5, hq5⟩ : ∃ q, relsB o.segs o.syms 0 o.rels = q := ⟨_, rfl⟩
  obtain ⟨q6, hq6⟩ : ∃ q, o.init.all (fnB o.syms) = q := ⟨_, rfl⟩
  obtain ⟨q7, hq7⟩ : ∃ q, o.fini.all (fnB o.syms) = q := ⟨_, rfl⟩
  rw [hq1, hq2, hq3, hq4, hq5, hq6, hq7] at HR
  rw [hq1] at HNM
  rw [hq2] at HCN
  rw [hq3] at HSG
  simp only [hq3, hq4] at HA1
  simp only [hq3, hq5] at HRL
  rw [hq6] at HA2
  rw [hq7] at HA3
  clear hq1 hq2 hq3 hq4 hq5 hq6 hq7 hqc hqn hrr hr hf hnc
  unfold objV
  have hoc : (objC o).toArray = #[.string ⟨o.name.toArray⟩, .slice o.na o.needs.length o.nc, .slice o.ga o.segs.length o.gc, .slice o.sa o.syms.length o.sc, .slice o.ra o.rels.length o.rc, .slice o.ia o.init.length o.ic, .slice o.fa o.fini.length o.fc] := rfl
  rw [hoc]
  go_enter Try.func12, Try.ntmps12
  go_wp2_with fail
  obtain ⟨W0, hW0⟩ : ∃ W0, w.alloc (.cells #[.string ⟨o.name.toArray⟩, .slice o.na o.needs.length o.nc, .slice o.ga o.segs.length o.gc, .slice o.sa o.syms.length o.sc, .slice o.ra o.rels.length o.rc, .slice o.ia o.init.length o.ic, .slice o.fa o.fini.length o.fc] 30) = W0 := ⟨_, rfl⟩
  have HB := Lib.hid (show Below w.heap.size w W0 by rw [← hW0]; exact bAlloc (Below.refl _ _) _)
  have HX := Lib.hid (show ∀ j, W0.cell? ⟨w.heap.size, j, none⟩ = (objC o)[j]? by intro j; rw [← hW0]; exact box7 (Below.refl _ _) j)
  have HO := Lib.hid (show w.heap.size < W0.heap.size by rw [← hW0, size_alloc]; omega)
  rw [hW0]
  clear hW0 hoc
  refine (HNM.out W0 HB.out).mono ?_; rintro e W1 ⟨rfl, hb'⟩
  have HX := Lib.hid (fun j => (hb'.cell (p := ⟨w.heap.size, j, none⟩) HO.out).trans (HX.out j))
  have HO := Lib.hid (Nat.lt_of_lt_of_le HO.out hb'.size)
  have HB := Lib.hid (bTrans HB.out hb')
  clear hb'
  have e0 : W1.cell? ⟨w.heap.size, 0, none⟩ = some (.string ⟨o.name.toArray⟩) := HX.out 0
  have e1 : W1.cell? ⟨w.heap.size, 1, none⟩ = some (.slice o.na o.needs.length o.nc) := HX.out 1
  have e2 : W1.cell? ⟨w.heap.size, 2, none⟩ = some (.slice o.ga o.segs.length o.gc) := HX.out 2
  have e3 : W1.cell? ⟨w.heap.size, 3, none⟩ = some (.slice o.sa o.syms.length o.sc) := HX.out 3
  have e4 : W1.cell? ⟨w.heap.size, 4, none⟩ = some (.slice o.ra o.rels.length o.rc) := HX.out 4
  have e5 : W1.cell? ⟨w.heap.size, 5, none⟩ = some (.slice o.ia o.init.length o.ic) := HX.out 5
  have e6 : W1.cell? ⟨w.heap.size, 6, none⟩ = some (.slice o.fa o.fini.length o.fc) := HX.out 6
  have eO : w.heap.size < W1.heap.size := HO.out
  cases q1 with
  | false =>
    have hrf : 103 = r := HR.out
    subst hrf
    go_wp2_with fail
    go_ret
    exact ⟨rfl, HB.out⟩
  | true =>
    go_wp2_with fail
    clear e0 e1 e2 e3 e4 e5 e6 eO
    refine (HCN.out W1).mono ?_; rintro e W2 ⟨rfl, hb'⟩
    have HX := Lib.hid (fun j => (hb'.cell (p := ⟨w.heap.size, j, none⟩) HO.out).trans (HX.out j))
    have HO := Lib.hid (Nat.lt_of_lt_of_le HO.out hb'.size)
    have HB := Lib.hid (bTrans HB.out hb')
    clear hb'
    have e0 : W2.cell? ⟨w.heap.size, 0, none⟩ = some (.string ⟨o.name.toArray⟩) := HX.out 0
    have e1 : W2.cell? ⟨w.heap.size, 1, none⟩ = some (.slice o.na o.needs.length o.nc) := HX.out 1
    have e2 : W2.cell? ⟨w.heap.size, 2, none⟩ = some (.slice o.ga o.segs.length o.gc) := HX.out 2
    have e3 : W2.cell? ⟨w.heap.size, 3, none⟩ = some (.slice o.sa o.syms.length o.sc) := HX.out 3
    have e4 : W2.cell? ⟨w.heap.size, 4, none⟩ = some (.slice o.ra o.rels.length o.rc) := HX.out 4
    have e5 : W2.cell? ⟨w.heap.size, 5, none⟩ = some (.slice o.ia o.init.length o.ic) := HX.out 5
    have e6 : W2.cell? ⟨w.heap.size, 6, none⟩ = some (.slice o.fa o.fini.length o.fc) := HX.out 6
    have eO : w.heap.size < W2.heap.size := HO.out
    cases q2 with
    | false =>
      have hrf : 104 = r := HR.out
      subst hrf
      go_wp2_with fail
      go_ret
      exact ⟨rfl, HB.out⟩
    | true =>
      go_wp2_with fail
      clear e0 e1 e2 e3 e4 e5 e6 eO
      refine (HSG.out W2 HB.out).mono ?_; rintro e W3 ⟨rfl, hb'⟩
      have HX := Lib.hid (fun j => (hb'.cell (p := ⟨w.heap.size, j, none⟩) HO.out).trans (HX.out j))
      have HO := Lib.hid (Nat.lt_of_lt_of_le HO.out hb'.size)
      have HB := Lib.hid (bTrans HB.out hb')
      clear hb'
      have e0 : W3.cell? ⟨w.heap.size, 0, none⟩ = some (.string ⟨o.name.toArray⟩) := HX.out 0
      have e1 : W3.cell? ⟨w.heap.size, 1, none⟩ = some (.slice o.na o.needs.length o.nc) := HX.out 1
      have e2 : W3.cell? ⟨w.heap.size, 2, none⟩ = some (.slice o.ga o.segs.length o.gc) := HX.out 2
      have e3 : W3.cell? ⟨w.heap.size, 3, none⟩ = some (.slice o.sa o.syms.length o.sc) := HX.out 3
      have e4 : W3.cell? ⟨w.heap.size, 4, none⟩ = some (.slice o.ra o.rels.length o.rc) := HX.out 4
      have e5 : W3.cell? ⟨w.heap.size, 5, none⟩ = some (.slice o.ia o.init.length o.ic) := HX.out 5
      have e6 : W3.cell? ⟨w.heap.size, 6, none⟩ = some (.slice o.fa o.fini.length o.fc) := HX.out 6
      have eO : w.heap.size < W3.heap.size := HO.out
      cases q3 with
      | false =>
        have hrf : 105 = r := HR.out
        subst hrf
        go_wp2_with fail
        go_ret
        exact ⟨rfl, HB.out⟩
      | true =>
        go_wp2_with fail
        clear e0 e1 e2 e3 e4 e5 e6 eO
        refine (HA1.out (by trivial) W3 HB.out w.heap.size HO.out HX.out).mono ?_; rintro e W4 ⟨rfl, hb'⟩
        have HX := Lib.hid (fun j => (hb'.cell (p := ⟨w.heap.size, j, none⟩) HO.out).trans (HX.out j))
        have HO := Lib.hid (Nat.lt_of_lt_of_le HO.out hb'.size)
        have HB := Lib.hid (bTrans HB.out hb')
        clear hb'
        have e0 : W4.cell? ⟨w.heap.size, 0, none⟩ = some (.string ⟨o.name.toArray⟩) := HX.out 0
        have e1 : W4.cell? ⟨w.heap.size, 1, none⟩ = some (.slice o.na o.needs.length o.nc) := HX.out 1
        have e2 : W4.cell? ⟨w.heap.size, 2, none⟩ = some (.slice o.ga o.segs.length o.gc) := HX.out 2
        have e3 : W4.cell? ⟨w.heap.size, 3, none⟩ = some (.slice o.sa o.syms.length o.sc) := HX.out 3
        have e4 : W4.cell? ⟨w.heap.size, 4, none⟩ = some (.slice o.ra o.rels.length o.rc) := HX.out 4
        have e5 : W4.cell? ⟨w.heap.size, 5, none⟩ = some (.slice o.ia o.init.length o.ic) := HX.out 5
        have e6 : W4.cell? ⟨w.heap.size, 6, none⟩ = some (.slice o.fa o.fini.length o.fc) := HX.out 6
        have eO : w.heap.size < W4.heap.size := HO.out
        cases q4 with
        | false =>
          have hrf : 106 = r := HR.out
          subst hrf
          go_wp2_with fail
          go_ret
          exact ⟨rfl, HB.out⟩
        | true =>
          go_wp2_with fail
          clear e0 e1 e2 e3 e4 e5 e6 eO
          refine (HRL.out (by trivial) W4 HB.out).mono ?_; rintro e W5 ⟨rfl, hb'⟩
          have HX := Lib.hid (fun j => (hb'.cell (p := ⟨w.heap.size, j, none⟩) HO.out).trans (HX.out j))
          have HO := Lib.hid (Nat.lt_of_lt_of_le HO.out hb'.size)
          have HB := Lib.hid (bTrans HB.out hb')
          clear hb'
          have e0 : W5.cell? ⟨w.heap.size, 0, none⟩ = some (.string ⟨o.name.toArray⟩) := HX.out 0
          have e1 : W5.cell? ⟨w.heap.size, 1, none⟩ = some (.slice o.na o.needs.length o.nc) := HX.out 1
          have e2 : W5.cell? ⟨w.heap.size, 2, none⟩ = some (.slice o.ga o.segs.length o.gc) := HX.out 2
          have e3 : W5.cell? ⟨w.heap.size, 3, none⟩ = some (.slice o.sa o.syms.length o.sc) := HX.out 3
          have e4 : W5.cell? ⟨w.heap.size, 4, none⟩ = some (.slice o.ra o.rels.length o.rc) := HX.out 4
          have e5 : W5.cell? ⟨w.heap.size, 5, none⟩ = some (.slice o.ia o.init.length o.ic) := HX.out 5
          have e6 : W5.cell? ⟨w.heap.size, 6, none⟩ = some (.slice o.fa o.fini.length o.fc) := HX.out 6
          have eO : w.heap.size < W5.heap.size := HO.out
          cases q5 with
          | false =>
            have hrf : 107 = r := HR.out
            subst hrf
            go_wp2_with fail
            go_ret
            exact ⟨rfl, HB.out⟩
          | true =>
            go_wp2_with fail
            clear e0 e1 e2 e3 e4 e5 e6 eO
            refine (HA2.out W5 HB.out w.heap.size HO.out HX.out).mono ?_; rintro e W6 ⟨rfl, hb'⟩
            have HX := Lib.hid (fun j => (hb'.cell (p := ⟨w.heap.size, j, none⟩) HO.out).trans (HX.out j))
            have HO := Lib.hid (Nat.lt_of_lt_of_le HO.out hb'.size)
            have HB := Lib.hid (bTrans HB.out hb')
            clear hb'
            have e0 : W6.cell? ⟨w.heap.size, 0, none⟩ = some (.string ⟨o.name.toArray⟩) := HX.out 0
            have e1 : W6.cell? ⟨w.heap.size, 1, none⟩ = some (.slice o.na o.needs.length o.nc) := HX.out 1
            have e2 : W6.cell? ⟨w.heap.size, 2, none⟩ = some (.slice o.ga o.segs.length o.gc) := HX.out 2
            have e3 : W6.cell? ⟨w.heap.size, 3, none⟩ = some (.slice o.sa o.syms.length o.sc) := HX.out 3
            have e4 : W6.cell? ⟨w.heap.size, 4, none⟩ = some (.slice o.ra o.rels.length o.rc) := HX.out 4
            have e5 : W6.cell? ⟨w.heap.size, 5, none⟩ = some (.slice o.ia o.init.length o.ic) := HX.out 5
            have e6 : W6.cell? ⟨w.heap.size, 6, none⟩ = some (.slice o.fa o.fini.length o.fc) := HX.out 6
            have eO : w.heap.size < W6.heap.size := HO.out
            cases q6 with
            | false =>
              have hrf : 108 = r := HR.out
              subst hrf
              go_wp2_with fail
              go_ret
              exact ⟨rfl, HB.out⟩
            | true =>
              go_wp2_with fail
              clear e0 e1 e2 e3 e4 e5 e6 eO
              refine (HA3.out W6 HB.out w.heap.size HO.out HX.out).mono ?_; rintro e W7 ⟨rfl, hb'⟩
              have HX := Lib.hid (fun j => (hb'.cell (p := ⟨w.heap.size, j, none⟩) HO.out).trans (HX.out j))
              have HO := Lib.hid (Nat.lt_of_lt_of_le HO.out hb'.size)
              have HB := Lib.hid (bTrans HB.out hb')
              clear hb'
              have e0 : W7.cell? ⟨w.heap.size, 0, none⟩ = some (.string ⟨o.name.toArray⟩) := HX.out 0
              have e1 : W7.cell? ⟨w.heap.size, 1, none⟩ = some (.slice o.na o.needs.length o.nc) := HX.out 1
              have e2 : W7.cell? ⟨w.heap.size, 2, none⟩ = some (.slice o.ga o.segs.length o.gc) := HX.out 2
              have e3 : W7.cell? ⟨w.heap.size, 3, none⟩ = some (.slice o.sa o.syms.length o.sc) := HX.out 3
              have e4 : W7.cell? ⟨w.heap.size, 4, none⟩ = some (.slice o.ra o.rels.length o.rc) := HX.out 4
              have e5 : W7.cell? ⟨w.heap.size, 5, none⟩ = some (.slice o.ia o.init.length o.ic) := HX.out 5
              have e6 : W7.cell? ⟨w.heap.size, 6, none⟩ = some (.slice o.fa o.fini.length o.fc) := HX.out 6
              have eO : w.heap.size < W7.heap.size := HO.out
              cases q7 with
              | false =>
                have hrf : 108 = r := HR.out
                subst hrf
                go_wp2_with fail
                go_ret
                exact ⟨rfl, HB.out⟩
              | true =>
                have hrf : 0 = r := HR.out
                subst hrf
                go_wp2_with fail
                go_ret
                exact ⟨rfl, HB.out⟩
end Go.Proofs.Ytknldomgmogccaa
