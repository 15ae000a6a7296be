/- The program's Open: contract. -/
import Derived.Test.YtfneikphgmjfbaaDlX
import Derived.Deep.RegionLaw
namespace Go.Proofs.Ytfneikphgmjfbaa
set_option linter.unusedVariables false
set_option linter.unusedSimpArgs false
open Go.Joins Go.ChangeShapes Go.WideShapes Go.ChangeAt Go.RowKit Go.Deep

/-- what a call that makes a state leaves -/
def StepPost (w : World) (R : St → List Nat → Int → Prop) (e : Ending) (w' : World) : Prop :=
  ∃ a1 c1 a2 c2 a3 c3 s' b x, e = .returned (.tuple #[.agg #[.slice a1 s'.ld.length c1, .slice a2 s'.op.length c2], .slice a3 b.length c3, .int .i64 x]) ∧ R s' b x ∧ RdSt w' a1 a2 s' ∧ Rd w' a3 b.length (i64s (ordZ b)) ∧ Below w.heap.size w w'
theorem step_of {w w' : World} {R : St → List Nat → Int → Prop} {a1 a2 a3 : Option Addr} {c1 c2 c3 n1 n2 n3 : Nat} {x : Int} (s' : St) (b : List Nat) (hR : R s' b x) (h1 : s'.ld.length = n1) (h2 : s'.op.length = n2) (h3 : b.length = n3) (r1 : Rd w' a1 n1 (i64s (ordZ s'.ld))) (r2 : Rd w' a2 n2 (i64s (ordZ s'.op))) (r3 : Rd w' a3 n3 (i64s (ordZ b))) (hb : Below w.heap.size w w') :
    StepPost w R (.returned (.tuple #[.agg #[.slice a1 n1 c1, .slice a2 n2 c2], .slice a3 n3 c3, .int .i64 x])) w' := by
  subst h1; subst h2; subst h3
  exact ⟨a1, c1, a2, c2, a3, c3, s', b, x, rfl, hR, ⟨r1, r2⟩, r3, hb⟩
theorem NextAt.grow {w W W' : World} {u1 u2 v1 v2 : Value} {n1 n2 : Nat} {x1 x2 : List Int} {r : Option Nat} (h : NextAt w W u1 u2 v1 v2 n1 n2 x1 x2) (hgr : W.grownBy W' r) (hr : ∀ g, r = some g → w.heap.size + 2 ≤ g ∧ v1.ownBlock ≠ some g ∧ v2.ownBlock ≠ some g) : NextAt w W' u1 u2 v1 v2 n1 n2 x1 x2 := by
  have hz := h.sz
  have far : ∀ b, b < w.heap.size + 2 → W'.heap[b]? = W.heap[b]? := fun b hb => hgr.block b (by omega) (fun e => by have := (hr b e.symm).1; omega)
  have cel : ∀ b j, b < w.heap.size + 2 → W'.cell? ⟨b, j, none⟩ = W.cell? ⟨b, j, none⟩ := fun b j hb => World.cell?_of_block (far b hb)
  refine ⟨⟨(cel _ _ (by omega)).trans h.sc.1, (cel _ _ (by omega)).trans h.sc.2⟩, ⟨(cel _ _ (by omega)).trans h.nc.1, (cel _ _ (by omega)).trans h.nc.2⟩, fun j => (World.frozen?_of_block (far _ (by show w.heap.size + 1 < _; omega))).trans (h.nf j), Nat.le_trans hz hgr.size, ⟨?_, ?_, h.own.2.2⟩, ?_⟩
  · refine h.own.1.kept hgr ?_
    cases hv : v1.ownBlock with
    | none => exact Or.inl rfl
    | some g => exact Or.inr fun e => (hr g e.symm).2.1 hv
  · refine h.own.2.1.kept hgr ?_
    cases hv : v2.ownBlock with
    | none => exact Or.inl rfl
    | some g => exact Or.inr fun e => (hr g e.symm).2.2 hv
  · exact grownB h.bel hgr (fun q hq => by have := (hr q hq).1; omega)
theorem rd_addr {w : World} {a : Option Addr} {n : Nat} {xs : List Value} (h : Rd w a n xs) {b off : Nat} (hn : 0 < n) (e : a = some ⟨b, off, none⟩) : b < w.heap.size := by
  obtain ⟨b', off', e', hlt, -⟩ := h.2 hn
  rw [e] at e'; cases e'; exact hlt
theorem ordZ_filter (b ld : List Nat) : (ordZ b).filter (fun x => !(ordZ ld).contains x) = ordZ (b.filter fun k => !ld.contains k) := by
  unfold ordZ
  rw [List.filter_map]
  congr 1
  refine List.filter_congr fun k _ => ?_
  show (!(ordZ ld).contains (k : Int)) = !ld.contains k
  rw [ordZ_contains]
theorem ordZ_append (a b : List Nat) : ordZ (a ++ b) = ordZ a ++ ordZ b := by unfold ordZ; rw [List.map_append]
set_option maxRecDepth 100000 in
set_option maxHeartbeats 4000000 in
theorem open_no (a : Option Addr) (l : List Obj) (c : Nat) (a1 a2 : Option Addr) (c1 c2 : Nat) (s : St) (name nn : List UInt8) (w : World) (hl : RdO w a l) (hm : l.length ≤ 100) (hnm : Named l) (hs : RdSt w a1 a2 s) (h1 : s.ld.length ≤ 1000) (h2 : s.op.length ≤ 1000) (hname : name.length ≤ maxLen) (hcr : closR l name = .inr nn) :
    Calls Try.prog 14 #[.slice a l.length c, .agg #[.slice a1 s.ld.length c1, .slice a2 s.op.length c2], .string ⟨name.toArray⟩] w (StepPost w (Ope l s name)) := by
  have HL := Lib.hid hl
  have HCL := Lib.hid (fun W (hW : RdO W a l) => closure_own a l c name W hW (by omega) hnm hname)
  have HCO := Lib.hid (fun W (hW : Below w.heap.size w W) => copied_any a1 a2 c1 c2 s W (hs.below hW) (by omega) (by omega))
  have HR := Lib.hid (show Ope l s name s [] 130 from Or.inl ⟨⟨nn, hcr⟩, rfl, rfl, rfl⟩)
  have HCR := Lib.hid hcr
  clear hl hnm hs hcr
  obtain ⟨n1, hn1⟩ : ∃ n, s.ld.length = n := ⟨_, rfl⟩
  obtain ⟨n2, hn2⟩ : ∃ n, s.op.length = n := ⟨_, rfl⟩
  obtain ⟨m, hlm⟩ : ∃ m, l.length = m := ⟨_, rfl⟩
  have HP := Lib.hid (fun (W : World) b1 d1 b2 d2 r1 r2 hb => step_of (w := w) (w' := W) (R := Ope l s name) (a1 := b1) (a2 := b2) (a3 := none) (c1 := d1) (c2 := d2) (c3 := 0) s [] HR.out hn1 hn2 rfl r1 r2 (Rd.nil _ _) hb)
  unfold CopPost at HCO
  rw [hn1, hn2] at HCO
  rw [hlm] at HCL
  rw [hn1, hn2, hlm]
  clear hn1 hn2 hlm
  go_enter Try.func14, Try.ntmps14
  go_wp2_with fail
  refine (HCO.out _ (bAlloc (bAlloc (Below.refl _ _) _) _)).mono ?_; rintro e w1 ⟨b1, d1, b2, d2, rfl, ho1, hb1⟩
  obtain ⟨-, ⟨x3, x4⟩, -, x6, x7, -⟩ := two_new (w := w) (W := w1) (x1 := .slice a1 n1 c1) (x2 := .slice a2 n2 c2) (y1 := .slice none 0 0) (y2 := .slice none 0 0) (t := 28) (t' := 28) hb1
  have x8 := x6 0
  have x9 := x6 1
  have NA := Lib.hid (NextAt.start (w := w) (W := w1) (u1 := .slice a1 n1 c1) (u2 := .slice a2 n2 c2) (x := .slice none 0 0) (y := .slice none 0 0) (t := 28) (t' := 28) hb1 ho1)
  clear ho1 hb1 x6
  go_wp2_with fail
  refine (HCL.out _ (HL.out.below NA.out.bel)).mono ?_; rintro e w3 ⟨hb3, hp⟩
  rw [HCR.out] at hp
  subst hp
  have NA3 := Lib.hid (NA.out.below hb3)
  obtain ⟨y1, y2⟩ := NA3.out.nc
  have y3 := NA3.out.nf 0
  have y4 := NA3.out.nf 1
  clear hb3 x3 x4 x8 x9
  go_wp2_with fail
  have kc := NA3.out.again.nc
  refine bodyPost_ret (v := .tuple #[.agg #[.slice b1 n1 d1, .slice b2 n2 d2], .slice none 0 0, .int .i64 130]) ?_ rfl (HP.out _ _ _ _ _ (Rd.of_own NA3.out.again.own.1) (Rd.of_own NA3.out.again.own.2.1) NA3.out.again.bel)
  simp [results, Try.results14, go_sem, kc.1, kc.2]
set_option maxRecDepth 100000 in
set_option maxHeartbeats 4000000 in
theorem open_yes (a : Option Addr) (l : List Obj) (c : Nat) (a1 a2 : Option Addr) (c1 c2 : Nat) (s : St) (name : List UInt8) (o : List Nat) (w : World) (hl : RdO w a l) (hm : l.length ≤ 100) (hnm : Named l) (hs : RdSt w a1 a2 s) (h1 : s.ld.length ≤ 1000) (h2 : s.op.length ≤ 1000) (hname : name.length ≤ maxLen) (hcr : closR l name = .inl o) :
    Calls Try.prog 14 #[.slice a l.length c, .agg #[.slice a1 s.ld.length c1, .slice a2 s.op.length c2], .string ⟨name.toArray⟩] w (StepPost w (Ope l s name)) := by
  obtain ⟨p, r, ho0, hf, hpl, hO, hmem⟩ := closR_fst hcr
  have HL := Lib.hid hl
  have HCL := Lib.hid (fun W (hW : RdO W a l) => closure_own a l c name W hW (by omega) hnm hname)
  have HBE := Lib.hid (fun b d W (hW : RdO W a l) (hV : Rd W b o.length (i64s (ordZ o))) => begin_any a l c b o d W hW (by omega) hnm hV hO.2 (by have := hO.le; omega))
  have HCO := Lib.hid (fun W (hW : Below w.heap.size w W) => copied_any a1 a2 c1 c2 s W (hs.below hW) (by omega) (by omega))
  have HRD := Lib.hid hs
  have HCR := Lib.hid hcr
  have HOO := Lib.hid ho0
  have hol := hO.le
  have hpos : 0 < o.length := by rw [ho0]; simp
  have hg0 := ordZ_get o 0 hpos
  rw [show o[0] = p by simp [ho0]] at hg0
  have HG0 := Lib.hid hg0
  clear hl hnm hs hcr hO hmem hf ho0 hg0
  obtain ⟨n1, hn1⟩ : ∃ n, s.ld.length = n := ⟨_, rfl⟩
  obtain ⟨n2, hn2⟩ : ∃ n, s.op.length = n := ⟨_, rfl⟩
  obtain ⟨m, hlm⟩ : ∃ m, l.length = m := ⟨_, rfl⟩
  obtain ⟨n, hn⟩ : ∃ n, o.length = n := ⟨_, rfl⟩
  unfold CopPost at HCO
  unfold RdSt at HRD
  rw [hn1, hn2] at HCO HRD
  rw [hlm] at HCL HBE hol hm
  rw [hn] at HBE hol hpos
  rw [hn1] at h1
  rw [hn2] at h2
  rw [hn1, hn2, hlm]
  have HN := Lib.hid hn
  have HN1 := Lib.hid hn1
  have HN2 := Lib.hid hn2
  have HLM := Lib.hid hlm
  clear hn1 hn2 hlm hn
  go_enter Try.func14, Try.ntmps14
  go_wp2_with fail
  refine (HCO.out _ (bAlloc (bAlloc (Below.refl _ _) _) _)).mono ?_; rintro e w1 ⟨b1, d1, b2, d2, rfl, ho1, hb1⟩
  obtain ⟨-, ⟨x3, x4⟩, -, x6, x7, -⟩ := two_new (w := w) (W := w1) (x1 := .slice a1 n1 c1) (x2 := .slice a2 n2 c2) (y1 := .slice none 0 0) (y2 := .slice none 0 0) (t := 28) (t' := 28) hb1
  have x8 := x6 0
  have x9 := x6 1
  have NA := Lib.hid (NextAt.start (w := w) (W := w1) (u1 := .slice a1 n1 c1) (u2 := .slice a2 n2 c2) (x := .slice none 0 0) (y := .slice none 0 0) (t := 28) (t' := 28) hb1 ho1)
  clear ho1 hb1 x6
  go_wp2_with fail
  refine (HCL.out _ (HL.out.below NA.out.bel)).mono ?_; rintro e w3 ⟨hb3, hp⟩
  rw [HCR.out] at hp
  obtain ⟨a3, c3, rfl, ho3⟩ := hp
  rw [HN.out] at ho3 ⊢
  have NA3 := Lib.hid (NA.out.below hb3)
  have R3 := Lib.hid (Rd.of_own ho3)
  have O3 := Lib.hid ho3
  have L3 := Lib.hid NA.out.sz
  have hb3s := hb3.size
  have A1 := Lib.hid (fun g hg => (NA.out.own.1.lt g hg).2)
  have A2 := Lib.hid (fun g hg => (NA.out.own.2.1.lt g hg).2)
  clear hb3 x3 x4 x8 x9 x7 ho3
  go_wp2_with fail
  refine (HBE.out _ _ _ (HL.out.below NA3.out.bel) R3.out).mono ?_; rintro e w4 ⟨a4, c4, m4, o4, rfl, hv4, ho4, hg4, hb4⟩
  have NA4 := Lib.hid (NA3.out.below hb4)
  have HV4 := Lib.hid hv4
  have O4 := Lib.hid ho4
  have O3b := Lib.hid (own_below O3.out hb4)
  have L4 := Lib.hid hg4.le
  have hol4 := hg4.le
  rw [HLM.out] at hol4
  have hz4 := hb4.size
  have hz3 := NA3.out.sz
  have A1b := Lib.hid (fun g hg => (NA3.out.own.1.lt g hg).2)
  have A2b := Lib.hid (fun g hg => (NA3.out.own.2.1.lt g hg).2)
  have HLT4 := Lib.hid (fun g hg => (O4.out.lt g hg))
  obtain ⟨n4, hn4⟩ : ∃ n, o4.length = n := ⟨_, rfl⟩
  rw [hn4] at hol4 O4 HLT4 ⊢
  have HD := Lib.hid (delfo_any a4 n4 c4 w3.heap.size (ordZ o4) w.heap.size a1 n1 c1 (ordZ s.ld) w4 O4.out (by omega) NA4.out.sc.1 (HRD.out.1.below NA4.out.bel) (by omega) (fun g hg => ⟨by have := HLT4.out g hg; omega, fun b off h0 e => by have := HLT4.out g hg; have := rd_addr HRD.out.1 h0 e; omega⟩))
  have HN4 := Lib.hid hn4
  clear hv4 ho4 hg4 hb4 hn4
  go_wp2_with fail
  refine HD.out.mono ?_; rintro e w5 ⟨n5, rfl, hn5, ho5, hg5⟩
  rw [ordZ_filter] at hn5 ho5
  rw [ordZ_len] at hn5
  have NA5 := Lib.hid (NA4.out.grow hg5 (fun g hg => ⟨by have := HLT4.out g hg; omega, fun h => by have := A1b.out g h; have := HLT4.out g hg; omega, fun h => by have := A2b.out g h; have := HLT4.out g hg; omega⟩))
  have O3c := Lib.hid (kept_ne O3b.out hg5 (fun g hg h => by have := O3.out.lt g h; have := HLT4.out g hg; omega))
  have O5 := Lib.hid ho5
  have HN5 := Lib.hid hn5
  have hle5 : n5 ≤ n4 := by rw [hn5, ← HN4.out]; exact List.length_filter_le _ _
  have HLT5 := Lib.hid (fun g (hg : (Value.slice a4 n5 c4).ownBlock = some g) => (HLT4.out g (by cases a4 <;> exact hg)).1)
  obtain ⟨y1, y2⟩ := NA5.out.nc
  have y3 := NA5.out.nf 0
  have y4 := NA5.out.nf 1
  have y5 : w.heap.size + 1 < w5.heap.size := NA5.out.sz
  have hz5 := NA5.out.sz
  clear hn5 ho5 hg5 HD
  go_wp2_with (at_builtin; refine wpList_app _ rfl _ _ rfl (w.heap.size + 2) (.slice b1 n1 d1) n1 (ordZ s.ld) rfl NA5.out.own.1 a4 n5 c4 (ordZ (o4.filter fun k => !s.ld.contains k)) rfl (Rd.of_own O5.out) (by omega) (by omega) ?_; intro a6 c6 w6 hown6 hgrow6 hat6; have NA6 := Lib.hid (NA5.out.app1 hgrow6 hown6 hat6); have O6 := Lib.hid (kept_ne O5.out hgrow6 (fun g hg h => by have := A1b.out g hg; have := HLT5.out g h; omega)); have O3d := Lib.hid (kept_ne O3c.out hgrow6 (fun g hg h => by have := A1.out g hg; have := O3.out.lt g h; omega)); have z1 : w6.cell? ⟨w.heap.size + 1, 0, none⟩ = some (.slice b1 n1 d1) := (World.cell?_of_block (own_far (w := w) hgrow6 (fun g hg => (NA5.out.own.1.lt g hg).1) (w.heap.size + 1) (by omega) NA5.out.sz)).trans NA5.out.nc.1; have z2 : w6.frozen? ⟨w.heap.size + 1, 0, none⟩ = false := (World.frozen?_of_block (own_far (w := w) hgrow6 (fun g hg => (NA5.out.own.1.lt g hg).1) (w.heap.size + 1) (by omega) NA5.out.sz)).trans (NA5.out.nf 0); have hg6 := hgrow6.size; clear hown6 hgrow6 hat6 y1 y2 y3 y4)
  have hL3 := L3.out
  have O6s := Lib.hid (own_kept_block O6.out fun g hg => Below.heap_setCell w6 ⟨w.heap.size + 1, 0, none⟩ (.slice a6 (n1 + n5) c6) _ (show g ≠ w.heap.size + 1 by omega))
  have O3s := Lib.hid (own_kept_block O3d.out fun g hg => Below.heap_setCell w6 ⟨w.heap.size + 1, 0, none⟩ (.slice a6 (n1 + n5) c6) _ (show g ≠ w.heap.size + 1 by omega))
  clear z1 z2 hg6 O6 O3d
  generalize w6.setCell ⟨w.heap.size + 1, 0, none⟩ (.slice a6 (n1 + n5) c6) = W6 at *
  obtain ⟨y1, y2⟩ := NA6.out.nc
  have y3 := NA6.out.nf 1
  have y5 : w.heap.size + 1 < W6.heap.size := NA6.out.sz
  have hz6 := NA6.out.sz
  obtain ⟨g2, f2, rfl, -, hc0⟩ := (Rd.of_own O3s.out).at_ hpos
  rw [HG0.out, Nat.add_zero] at hc0
  have hpos2 : (0 : Int) < (n : Int) := by omega
  go_region_law (refine step_app _ rfl _ _ rfl (w.heap.size + 2) (.slice b2 n2 d2) n2 (ordZ s.op) rfl (own_below NA6.out.own.2.1 (Below.drew (bAlloc (Below.refl _ _) _))) (some ⟨W6.heap.size, 0, none⟩) 1 1 [(p : Int)] rfl ((rd_one W6 (p : Int) 3).below (Below.drew (Below.refl _ _))) (by omega) (by simp; omega) ?_; intro a7 c7 w7 hown7 hgrow7 hat7; have NB := Lib.hid (NA6.out.below (Below.drew (bAlloc (Below.refl _ _) (.cells #[.int .i64 (p : Int)] 3)))); have z1 : w7.cell? ⟨w.heap.size + 1, 1, none⟩ = some (.slice b2 n2 d2) := (World.cell?_of_block (own_far (w := w) hgrow7 (fun g hg => (NB.out.own.2.1.lt g hg).1) (w.heap.size + 1) (by omega) NB.out.sz)).trans NB.out.nc.2; have z2 : w7.frozen? ⟨w.heap.size + 1, 1, none⟩ = false := (World.frozen?_of_block (own_far (w := w) hgrow7 (fun g hg => (NB.out.own.2.1.lt g hg).1) (w.heap.size + 1) (by omega) NB.out.sz)).trans (NB.out.nf 1); have NA7 := Lib.hid (NB.out.app2 hgrow7 hown7 hat7); have O7 := Lib.hid (own_kept_block (kept_ne (own_below O6s.out (Below.drew (bAlloc (Below.refl _ _) _))) hgrow7 (fun g hg h => by have := A2.out g hg; have := HLT5.out g h; omega)) fun g hg => Below.heap_setCell w7 ⟨w.heap.size + 1, 1, none⟩ (.slice a7 (n2 + 1) c7) _ (show g ≠ w.heap.size + 1 by omega)); clear hown7 hgrow7 hat7)
  all_goals
    clear z1 z2 NB hc0 y1 y2 y3
    generalize w7.setCell ⟨w.heap.size + 1, 1, none⟩ (.slice a7 (n2 + 1) c7) = W7 at *
    obtain ⟨u1, u2⟩ := NA7.out.nc
    have u3 := NA7.out.nf 0
    have u4 := NA7.out.nf 1
    have hL3' : w.heap.size + 1 < w3.heap.size := by omega
    have HRR := Lib.hid (show Ope l s name ⟨s.ld ++ o4.filter (fun k => !s.ld.contains k), s.op ++ [p]⟩ (o4.filter fun k => !s.ld.contains k) 0 from Or.inr ⟨p, o4, ⟨o, m4, HCR.out, by rw [HOO.out]; rfl, HV4.out⟩, rfl, rfl, rfl⟩)
    go_wp2_with fail
    have kc := NA7.out.again.nc
    have k1 := Rd.of_own NA7.out.again.own.1
    have k2 := Rd.of_own NA7.out.again.own.2.1
    rw [← ordZ_append] at k1
    rw [show ordZ s.op ++ [(p : Int)] = ordZ (s.op ++ [p]) by rw [ordZ_append]; rfl] at k2
    refine bodyPost_ret (v := .tuple #[.agg #[.slice a6 (n1 + n5) c6, .slice a7 (n2 + 1) c7], .slice a4 n5 c4, .int .i64 0]) ?_ rfl (step_of ⟨s.ld ++ o4.filter (fun k => !s.ld.contains k), s.op ++ [p]⟩ (o4.filter fun k => !s.ld.contains k) HRR.out (by rw [List.length_append, HN1.out, HN5.out]) (by rw [List.length_append, HN2.out]; rfl) HN5.out.symm k1 k2 (own_two O7.out _ hL3' _ _ _ hL3') NA7.out.again.bel)
    simp [results, Try.results14, go_sem, kc.1, kc.2]
theorem open_any (a : Option Addr) (l : List Obj) (c : Nat) (a1 a2 : Option Addr) (c1 c2 : Nat) (s : St) (name : List UInt8) (w : World) (hl : RdO w a l) (hm : l.length ≤ 100) (hnm : Named l) (hs : RdSt w a1 a2 s) (h1 : s.ld.length ≤ 1000) (h2 : s.op.length ≤ 1000) (hname : name.length ≤ maxLen) :
    Calls Try.prog 14 #[.slice a l.length c, .agg #[.slice a1 s.ld.length c1, .slice a2 s.op.length c2], .string ⟨name.toArray⟩] w (StepPost w (Ope l s name)) := by
  cases hcr : closR l name with
  | inr nn => exact open_no a l c a1 a2 c1 c2 s name nn w hl hm hnm hs h1 h2 hname hcr
  | inl o => exact open_yes a l c a1 a2 c1 c2 s name o w hl hm hnm hs h1 h2 hname hcr
end Go.Proofs.Ytfneikphgmjfbaa
