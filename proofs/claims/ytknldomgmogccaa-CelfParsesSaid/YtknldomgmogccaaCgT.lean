/- CelfParses: its walk. -/
import Derived.Test.YtknldomgmogccaaCgN
import Derived.Test.YtknldomgmogccaaCgS
import Derived.Test.YtknldomgmogccaaCeU
namespace Go.Proofs.Ytknldomgmogccaa
set_option linter.unusedVariables false
set_option linter.unusedSimpArgs false
open Go.Joins Go.ChangeShapes Go.WideShapes Go.ChangeAt Go.RowKit Go.Deep

theorem rparse_any' (a : Option Addr) (n c : Nat) (b : List UInt8) (W : World) (hn : b.length = n) (hb : Rd W a n (u8v b)) (hc : n ≤ c) (hl : n ≤ 100000) :
    Calls Try.prog 9 #[.slice a n c] W fun e W' => ∃ o : Ob, e = .returned (.tuple #[.agg #[.string ⟨o.name.toArray⟩, .slice o.na o.needs.length o.nc, .slice o.ga o.segs.length o.gc, .slice o.sa o.syms.length o.sc, .slice o.ra o.rels.length o.rc, .slice o.ia o.init.length o.ic, .slice o.fa o.fini.length o.fc], .int .i64 (parseF b).2]) ∧ Below W.heap.size W W' ∧ RdOb W' o ∧ FitOb o ∧ coreO o = (parseF b).1 := by
  subst hn
  exact rparse_any a c b W hb hc hl
theorem osame_eq' (o p : Ob) (w : World) (hr : RdOb w o) (hf : FitOb o) (hs : RdOb w p) (he : coreO p = coreO o) :
    Calls Try.prog 10 #[.agg #[.string ⟨o.name.toArray⟩, .slice o.na o.needs.length o.nc, .slice o.ga o.segs.length o.gc, .slice o.sa o.syms.length o.sc, .slice o.ra o.rels.length o.rc, .slice o.ia o.init.length o.ic, .slice o.fa o.fini.length o.fc], .agg #[.string ⟨p.name.toArray⟩, .slice p.na p.needs.length p.nc, .slice p.ga p.segs.length p.gc, .slice p.sa p.syms.length p.sc, .slice p.ra p.rels.length p.rc, .slice p.ia p.init.length p.ic, .slice p.fa p.fini.length p.fc]] w fun e w' => e = .returned (.bool true) ∧ Below w.heap.size w w' := osame_eq o p w hr hf hs he
set_option maxHeartbeats 4000000 in
set_option maxRecDepth 100000 in
theorem CelfParses_walk (a : Option Addr) (c : Nat) (b : List UInt8) (w : World) (hb : Rd w a b.length (u8v b)) (hl : b.length ≤ maxLen) (hc : b.length ≤ c) :
    Calls Try.prog 3 #[.slice a b.length c] w fun e w' => e = .returned (.bool true) ∧ Below w.heap.size w w' := by
  obtain ⟨m, hm⟩ : ∃ m, b.length = m := ⟨_, rfl⟩
  have HM := Lib.hid hm
  have HBY := Lib.hid hb
  rw [hm] at HBY hl hc ⊢
  unfold maxLen at hl
  clear hb hm
  go_enter Try.func3, Try.ntmps3
  go_wp2_with fail
  refine (awake_any _).mono ?_; rintro e W1 ⟨rfl, hb⟩
  have HB := Lib.hid hb
  clear hb
  by_cases hcond : m ≤ 4000
  · have k1 : ¬ (4000 : Int) < (m : Int) := by omega
    have HP1 := Lib.hid (parse_any' a m c b W1 HM.out (HBY.out.below HB.out) hc (by omega))
    have HP2 := Lib.hid (fun W (h : Below w.heap.size w W) => rparse_any' a m c b W HM.out (HBY.out.below h) hc (by omega))
    obtain ⟨cb, hcb⟩ : ∃ x, (parseF b).1 = x := ⟨_, rfl⟩
    obtain ⟨e1, he1⟩ : ∃ e, (parseF b).2 = e := ⟨_, rfl⟩
    rw [he1, hcb] at HP1 HP2
    clear hcb he1
    go_wp2_with fail
    refine HP1.out.mono ?_; rintro e W2 ⟨o, rfl, hb, hrd, hfo, hco, -⟩
    have HB2 := Lib.hid (bTrans HB.out hb)
    have HRO := Lib.hid hrd
    have HFO := Lib.hid hfo
    have HCO := Lib.hid hco
    obtain ⟨A, hA⟩ : ∃ A, W2.heap.size = A := ⟨_, rfl⟩
    obtain ⟨U1, hU1⟩ : ∃ U, W2.alloc (.cells #[.string ⟨o.name.toArray⟩, .slice o.na o.needs.length o.nc, .slice o.ga o.segs.length o.gc, .slice o.sa o.syms.length o.sc, .slice o.ra o.rels.length o.rc, .slice o.ia o.init.length o.ic, .slice o.fa o.fini.length o.fc] 30) = U := ⟨_, rfl⟩
    have HX1 : Hid (BoxN U1 A #[.string ⟨o.name.toArray⟩, .slice o.na o.needs.length o.nc, .slice o.ga o.segs.length o.gc, .slice o.sa o.syms.length o.sc, .slice o.ra o.rels.length o.rc, .slice o.ia o.init.length o.ic, .slice o.fa o.fini.length o.fc]) := Lib.hid (by rw [← hU1, ← hA]; exact BoxN.new W2 _ _)
    have HBU1 : Hid (Below W2.heap.size W2 U1) := Lib.hid (by rw [← hU1]; exact bAlloc (Below.refl _ _) _)
    have HUE := Lib.hid hU1
    have HAE := Lib.hid hA
    clear hb hrd hfo hco hA hU1 HP1
    go_upto_region 5 with fail
    rw [HUE.out, HAE.out]
    clear HUE
    go_wp2_with fail
    refine (HP2.out U1 (bTrans HB2.out HBU1.out)).mono ?_; rintro e W3 ⟨p, rfl, hb, hrd, -, hco⟩
    have HB3 := Lib.hid (bTrans (bTrans HB2.out HBU1.out) hb)
    have HRP := Lib.hid hrd
    have HCP := Lib.hid hco
    have HX1 := Lib.hid (boxN_below HX1.out hb)
    have HRO := Lib.hid ((HRO.out.below HBU1.out).below hb)
    obtain ⟨C, hC⟩ : ∃ A, W3.heap.size = A := ⟨_, rfl⟩
    obtain ⟨U2, hU2⟩ : ∃ U, W3.alloc (.cells #[.string ⟨p.name.toArray⟩, .slice p.na p.needs.length p.nc, .slice p.ga p.segs.length p.gc, .slice p.sa p.syms.length p.sc, .slice p.ra p.rels.length p.rc, .slice p.ia p.init.length p.ic, .slice p.fa p.fini.length p.fc] 30) = U := ⟨_, rfl⟩
    have HX2 : Hid (BoxN U2 C #[.string ⟨p.name.toArray⟩, .slice p.na p.needs.length p.nc, .slice p.ga p.segs.length p.gc, .slice p.sa p.syms.length p.sc, .slice p.ra p.rels.length p.rc, .slice p.ia p.init.length p.ic, .slice p.fa p.fini.length p.fc]) := Lib.hid (by rw [← hU2, ← hC]; exact BoxN.new W3 _ _)
    have HBU2 : Hid (Below W3.heap.size W3 U2) := Lib.hid (by rw [← hU2]; exact bAlloc (Below.refl _ _) _)
    have HX1 := Lib.hid (boxN_below HX1.out HBU2.out)
    have HS := Lib.hid (osame_eq' o p U2 (HRO.out.below HBU2.out) HFO.out (HRP.out.below HBU2.out) (HCP.out.trans HCO.out.symm))
    have HUE := Lib.hid hU2
    have HCE := Lib.hid hC
    clear hb hrd hco hC hU2 HP2
    go_upto_region 6 with fail
    rw [HUE.out, HCE.out]
    clear HUE
    have x0 : U2.cell? ⟨A, 0, none⟩ = some (.string ⟨o.name.toArray⟩) := HX1.out.cell 0
    have x1 : U2.cell? ⟨A, 1, none⟩ = some (.slice o.na o.needs.length o.nc) := HX1.out.cell 1
    have x2 : U2.cell? ⟨A, 2, none⟩ = some (.slice o.ga o.segs.length o.gc) := HX1.out.cell 2
    have x3 : U2.cell? ⟨A, 3, none⟩ = some (.slice o.sa o.syms.length o.sc) := HX1.out.cell 3
    have x4 : U2.cell? ⟨A, 4, none⟩ = some (.slice o.ra o.rels.length o.rc) := HX1.out.cell 4
    have x5 : U2.cell? ⟨A, 5, none⟩ = some (.slice o.ia o.init.length o.ic) := HX1.out.cell 5
    have x6 : U2.cell? ⟨A, 6, none⟩ = some (.slice o.fa o.fini.length o.fc) := HX1.out.cell 6
    have y0 : U2.cell? ⟨C, 0, none⟩ = some (.string ⟨p.name.toArray⟩) := HX2.out.cell 0
    have y1 : U2.cell? ⟨C, 1, none⟩ = some (.slice p.na p.needs.length p.nc) := HX2.out.cell 1
    have y2 : U2.cell? ⟨C, 2, none⟩ = some (.slice p.ga p.segs.length p.gc) := HX2.out.cell 2
    have y3 : U2.cell? ⟨C, 3, none⟩ = some (.slice p.sa p.syms.length p.sc) := HX2.out.cell 3
    have y4 : U2.cell? ⟨C, 4, none⟩ = some (.slice p.ra p.rels.length p.rc) := HX2.out.cell 4
    have y5 : U2.cell? ⟨C, 5, none⟩ = some (.slice p.ia p.init.length p.ic) := HX2.out.cell 5
    have y6 : U2.cell? ⟨C, 6, none⟩ = some (.slice p.fa p.fini.length p.fc) := HX2.out.cell 6
    go_wp2_with fail
    refine HS.out.mono ?_; rintro e W5 ⟨rfl, hb⟩
    have HB5 := Lib.hid (bTrans (bTrans HB3.out HBU2.out) hb)
    clear hb
    go_wp2_with fail
    go_ret
    exact ⟨rfl, HB5.out⟩
  · have k1 : (4000 : Int) < (m : Int) := by omega
    go_wp2_with fail
    go_ret
    exact ⟨rfl, HB.out⟩
end Go.Proofs.Ytknldomgmogccaa
