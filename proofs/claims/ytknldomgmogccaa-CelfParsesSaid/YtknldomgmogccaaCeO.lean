/- What the reader reads of a whole object: its contract. -/
import Derived.Test.YtknldomgmogccaaCeN
import Derived.Deep.QuietTactic
import Derived.Deep.Cut
import Derived.BigQuiet
namespace Go.Proofs.Ytknldomgmogccaa
set_option linter.unusedVariables false
set_option linter.unusedSimpArgs false
open Go.Joins Go.ChangeShapes Go.WideShapes Go.ChangeAt Go.RowKit Go.Deep

def magicL : List UInt8 := [67, 69, 76, 70, 1]
theorem ext5 (s : List UInt8) (h : s.length ≤ 5) : (ByteArray.mk s.toArray).extract 0 5 = ⟨s.toArray⟩ := by
  apply ByteArray.ext
  simp [ByteArray.extract, ByteArray.copySlice]
  exact List.take_of_length_le h
theorem prefix2_any (s : List UInt8) (hs : s.length ≤ 5) (W : World) :
    Calls Try.prog 61 #[.string ⟨s.toArray⟩, .string ⟨#[67, 69, 76, 70, 1]⟩] W fun e W' => e = .returned (.bool (s == magicL)) ∧ W' = W := by
  obtain ⟨n, hn⟩ : ∃ n, s.length = n := ⟨_, rfl⟩
  by_cases h5 : n = 5
  · have h0 : (5 : Int) ≤ (n : Int) := by omega
    have he := ext5 s hs
    go_enter Try.func61, Try.ntmps61
    go_wp2_with fail
    all_goals (go_ret; exact ⟨rfl, rfl⟩)
  · have h0 : ¬ (5 : Int) ≤ (n : Int) := by omega
    have hf : (s == magicL) = false := by
      rw [beq_eq_false_iff_ne]; intro q; rw [q] at hn; exact h5 hn.symm
    rw [hf]
    go_enter Try.func61, Try.ntmps61
    go_wp2_with fail
    all_goals (go_ret; exact ⟨rfl, rfl⟩)
theorem prefix_any (s : List UInt8) (hs : s.length ≤ 5) (W : World) :
    Calls Try.prog 36 #[.string ⟨s.toArray⟩, .string ⟨#[67, 69, 76, 70, 1]⟩] W fun e W' => e = .returned (.bool (s == magicL)) ∧ W' = W := by
  have HP := Lib.hid (prefix2_any s hs W)
  obtain ⟨q, hq⟩ : ∃ q, (s == magicL) = q := ⟨_, rfl⟩
  rw [hq] at HP ⊢
  clear hq
  go_enter Try.func36, Try.ntmps36
  go_wp2_with fail
  refine HP.out.mono ?_; rintro e w' ⟨rfl, rfl⟩
  go_wp2_with fail
  go_ret
  exact ⟨rfl, rfl⟩
structure Core where
  name : List UInt8
  needs : List (List UInt8)
  segs : List (Int × Int × Int × List UInt8)
  syms : List Sym
  rels : List Rel
  init : List Int
  fini : List Int
def coreO (o : Ob) : Core := ⟨o.name, o.needs, o.segs.map coreG, o.syms, o.rels, o.init, o.fini⟩
def magicP (s : St) : St := if s.rest.take 5 == magicL then s else ⟨s.rest, 100⟩
def objP (s : St) : Core × St :=
  let s1 := (takeP 5 (magicP s)).2
  let a := textP s1; let b := listH textP a.2; let c := listH segP b.2; let d := listH symP c.2; let e := listH relP d.2; let f := listH halfP e.2; let g := listH halfP f.2
  (⟨a.1, b.1, c.1, d.1, e.1, f.1, g.1⟩, g.2)
theorem listP_rest {α : Type} {one : St → α × St} (h : ∀ s, (one s).2.rest.length ≤ s.rest.length) (n : Nat) (s : St) : (listP one n s).2.rest.length ≤ s.rest.length := by
  induction n generalizing s with
  | zero => exact Nat.le_refl _
  | succ n ih =>
    unfold listP
    split
    · exact Nat.le_trans (ih _) (h s)
    · exact Nat.le_refl _
theorem textP_rest (s : St) : (textP s).2.rest.length ≤ s.rest.length := Nat.le_trans (takeP_rest _ _) (takeP_rest _ _)
theorem listH_rest {α : Type} {one : St → α × St} (h : ∀ s, (one s).2.rest.length ≤ s.rest.length) (s : St) : (listH one s).2.rest.length ≤ s.rest.length := Nat.le_trans (listP_rest h _ _) (takeP_rest _ _)
theorem own_kp2 {w w' : World} {R X B k n : Nat} {e : TypeId} {v : Value} {xs : List Value} (h : w.ownsRow B e k v n xs) (hk : KP w.heap.size (fun b => b = R ∨ b = X) w w') (hR : R < B) (hX : X < B) : w'.ownsRow B e k v n xs := by
  refine ⟨h.1, ?_⟩
  rcases h.2 with h0 | ⟨g, cap, cur, hv, hB, hg, hrest⟩
  · exact Or.inl h0
  · exact Or.inr ⟨g, cap, cur, hv, hB, (hk.block g (Array.getElem?_eq_some_iff.1 hg).1 (fun q => by rcases q with q | q <;> omega)).trans hg, hrest⟩
theorem kp2 {Wi Wj : World} {R X j : Nat} (hk : KP Wi.heap.size (· = R) Wi Wj) (u : Value) : KP Wi.heap.size (fun b => b = R ∨ b = X) Wi (Wj.setCell ⟨X, j, none⟩ u) := (show KP Wi.heap.size (fun b => b = R ∨ b = X) Wi Wj from hk.mono (Nat.le_refl _) (fun _ _ q => Or.inl q)).set ⟨X, j, none⟩ (Or.inr (Or.inr rfl)) u
theorem size_setCell (w : World) (p : Addr) (u : Value) : (w.setCell p u).heap.size = w.heap.size := by simp
theorem own_kpS {w w' : World} {S : Nat → Prop} {B k n : Nat} {e : TypeId} {v : Value} {xs : List Value} (h : w.ownsRow B e k v n xs) (hk : KP w.heap.size S w w') (hS : ∀ b, B ≤ b → ¬ S b) : w'.ownsRow B e k v n xs := by
  refine ⟨h.1, ?_⟩
  rcases h.2 with h0 | ⟨g, cap, cur, hv, hB, hg, hrest⟩
  · exact Or.inl h0
  · exact Or.inr ⟨g, cap, cur, hv, hB, (hk.block g (Array.getElem?_eq_some_iff.1 hg).1 (hS g hB)).trans hg, hrest⟩
theorem newB_kp2 {P : Nat → Prop} {W W' : World} {R X B : Nat} {a : Option Addr} {l : List UInt8} (h : NewB P W a l) (hk : KP W.heap.size (fun b => b = R ∨ b = X) W W') (hP : ∀ b, P b → B ≤ b) (hR : R < B) (hX : X < B) : NewB P W' a l :=
  h.kp hk (Nat.le_refl _) (fun b hb _ q => by have := hP b hb; rcases q with q | q <;> omega)
set_option maxHeartbeats 4000000 in
set_option maxRecDepth 100000 in
theorem object_any (base R : Nat) (s : St) (W : World) (h : RdAt base R W s) (hsh : s.rest.length ≤ 100000) :
    Calls Try.prog 14 #[.pointer (some ⟨R, 0, none⟩)] W fun e W' => (∃ o : Ob, e = .returned (.agg (objC o).toArray) ∧ coreO o = (objP s).1 ∧ (∀ X, KP W'.heap.size (fun b => b ≤ W.heap.size) W' X → RdOb X o) ∧ o.needs.length ≤ o.nc) ∧ RdAt base R W' (objP s).2 ∧ KP W.heap.size (· = R) W W' := by
  have hlt := h.lt
  have hmr : (magicP s).rest.length ≤ 100000 := by unfold magicP; split <;> exact hsh
  obtain ⟨sm, hsm⟩ : ∃ x, magicP s = x := ⟨_, rfl⟩
  rw [hsm] at hmr
  have HT := Lib.hid (fun W (hW : RdAt base R W sm) => take_any base R sm 5 W hW (by decide))
  obtain ⟨⟨l0, s0⟩, hx0⟩ : ∃ x, takeP 5 sm = x := ⟨_, rfl⟩
  rw [hx0] at HT
  have r0 : s0.rest.length ≤ 100000 := by have h1 := takeP_rest 5 sm; rw [hx0] at h1; exact Nat.le_trans h1 hmr
  have HT : Hid (∀ W, RdAt base R W sm → Calls Try.prog 37 #[.pointer (some ⟨R, 0, none⟩), .int .i64 5] W fun e W' => (∃ a c, e = .returned (.slice a l0.length c) ∧ BytesIn base W' a l0) ∧ RdAt base R W' s0 ∧ KP W.heap.size (· = R) W W') := HT
  have HC1 := Lib.hid (fun W (hW : RdAt base R W s0) => text_any base R s0 W hW)
  obtain ⟨⟨x1, s1⟩, hx1⟩ : ∃ x, textP s0 = x := ⟨_, rfl⟩
  rw [hx1] at HC1
  simp only [] at HC1
  have r1 : s1.rest.length ≤ 100000 := by have h1 := textP_rest s0; rw [hx1] at h1; exact Nat.le_trans h1 r0
  have HC2 := Lib.hid (fun W (hW : RdAt base R W s1) => listStr_any base R s1 W hW)
  obtain ⟨⟨x2, s2⟩, hx2⟩ : ∃ x, listH textP s1 = x := ⟨_, rfl⟩
  rw [hx2] at HC2
  simp only [] at HC2
  have r2 : s2.rest.length ≤ 100000 := by have h1 := listH_rest textP_rest s1; rw [hx2] at h1; exact Nat.le_trans h1 r1
  have HC3 := Lib.hid (fun W (hW : RdAt base R W s2) => listSeg_any base R s2 W hW r2)
  obtain ⟨⟨x3, s3⟩, hx3⟩ : ∃ x, listH segP s2 = x := ⟨_, rfl⟩
  rw [hx3] at HC3
  simp only [] at HC3
  have HC4 := Lib.hid (fun W (hW : RdAt base R W s3) => listSym_any base R s3 W hW)
  obtain ⟨⟨x4, s4⟩, hx4⟩ : ∃ x, listH symP s3 = x := ⟨_, rfl⟩
  rw [hx4] at HC4
  simp only [] at HC4
  have HC5 := Lib.hid (fun W (hW : RdAt base R W s4) => listRel_any base R s4 W hW)
  obtain ⟨⟨x5, s5⟩, hx5⟩ : ∃ x, listH relP s4 = x := ⟨_, rfl⟩
  rw [hx5] at HC5
  simp only [] at HC5
  have HC6 := Lib.hid (fun W (hW : RdAt base R W s5) => listInt_any base R s5 W hW)
  obtain ⟨⟨x6, s6⟩, hx6⟩ : ∃ x, listH halfP s5 = x := ⟨_, rfl⟩
  rw [hx6] at HC6
  simp only [] at HC6
  have HC7 := Lib.hid (fun W (hW : RdAt base R W s6) => listInt_any base R s6 W hW)
  obtain ⟨⟨x7, s7⟩, hx7⟩ : ∃ x, listH halfP s6 = x := ⟨_, rfl⟩
  rw [hx7] at HC7
  simp only [] at HC7
  have hop : objP s = (⟨x1, x2, x3, x4, x5, x6, x7⟩, s7) := by
    unfold objP
    simp only [hsm, hx0, hx1, hx2, hx3, hx4, hx5, hx6, hx7]
  rw [hop]
  simp only []
  obtain ⟨rest, wr⟩ := s
  simp only [] at hsh
  have HP := Lib.hid (fun W => prefix_any (rest.take 5) (by rw [List.length_take]; omega) W)
  have hmg : (if rest.take 5 == magicL then (⟨rest, wr⟩ : St) else ⟨rest, 100⟩) = sm := hsm
  obtain ⟨q, hq⟩ : ∃ q, (rest.take 5 == magicL) = q := ⟨_, rfl⟩
  rw [hq] at HP hmg
  have H := Lib.hid h
  have HMG := Lib.hid hmg
  obtain ⟨n, hn⟩ : ∃ n, rest.length = n := ⟨_, rfl⟩
  obtain ⟨m5, hm5⟩ : ∃ m, min 5 n = m := ⟨_, rfl⟩
  have htl : (rest.take 5).length = m5 := by rw [List.length_take, hn, hm5]
  have hmin : (if (5 : Int) < (n : Int) then (5 : Int) else (n : Int)) = (m5 : Int) := by split <;> omega
  have HN := Lib.hid hn
  have HTL := Lib.hid htl
  rw [hn] at hsh
  clear h hmg hop hsm hx0 hx1 hx2 hx3 hx4 hx5 hx6 hx7 hq hn htl
  go_enter Try.func14, Try.ntmps14
  go_wp2_with fail
  obtain ⟨W0, hW0⟩ : ∃ W0, W.alloc (.cells #[.string ⟨#[]⟩, .slice none 0 0, .slice none 0 0, .slice none 0 0, .slice none 0 0, .slice none 0 0, .slice none 0 0] 30) = W0 := ⟨_, rfl⟩
  have HR := Lib.hid (show RdAt base R W0 ⟨rest, wr⟩ by rw [← hW0]; exact H.out.below (bAlloc (Below.refl _ _) _))
  have HK := Lib.hid (show KP W.heap.size (· = R) W W0 by rw [← hW0]; exact kp_alloc W R _)
  have HBX := Lib.hid (show BoxN W0 W.heap.size #[.string ⟨#[]⟩, .slice none 0 0, .slice none 0 0, .slice none 0 0, .slice none 0 0, .slice none 0 0, .slice none 0 0] by rw [← hW0]; exact BoxN.new W _ _)
  rw [hW0]
  clear hW0
  obtain ⟨ra, rc, hbx, hrc, hby⟩ := HR.out.box
  simp only [] at hbx hrc hby
  have c0 : W0.cell? ⟨R, 0, none⟩ = some (.slice ra n rc) := by rw [← HN.out]; exact hbx.cell 0
  have c1 : W0.cell? ⟨R, 1, none⟩ = some (.int .i64 wr) := hbx.cell 1
  have z1 : W0.frozen? ⟨R, 1, none⟩ = false := hbx.frozen 1
  have hst : ∀ n, (convert 22 9 (.slice ra m5 rc)).run Try.prog (W0.drewN n) = .ok (.string ⟨(rest.take 5).toArray⟩) (W0.drewN n) := fun n => by
    have h0 := run_str (W0.drewN n) base ra rc (rest.take 5) (hby.take 5)
    rw [HTL.out] at h0
    exact h0
  have l0 : (0 : Int) ≤ (m5 : Int) := by omega
  have l1 : (m5 : Int) ≤ (rc : Int) := by rw [HN.out] at hrc; omega
  clear hbx hby
  go_quiet ((go_at_call 36; exact Calls.quiet_of_same (HP.out _)))
  cases q with
  | true =>
    have hsm : (⟨rest, wr⟩ : St) = sm := HMG.out
    rw [hsm] at HR
    have HR := Lib.hid (show RdAt base R (W0.drewN nq) sm from HR.out.below ⟨rfl, rfl, rfl, Nat.le_refl _, fun _ _ => rfl⟩)
    have HK := Lib.hid (show KP W.heap.size (· = R) W (W0.drewN nq) from HK.out.trans ⟨rfl, rfl, rfl, Nat.le_refl _, fun _ _ _ => rfl⟩)
    have HBX := Lib.hid (show BoxN (W0.drewN nq) W.heap.size #[.string ⟨#[]⟩, .slice none 0 0, .slice none 0 0, .slice none 0 0, .slice none 0 0, .slice none 0 0, .slice none 0 0] from HBX.out)
    go_wp2_with fail
    obtain ⟨W1, hW1⟩ : ∃ W1, W0.drewN nq = W1 := ⟨_, rfl⟩
    rw [hW1] at HR HK HBX ⊢
    clear hW1 c0 c1 z1 hst hrc
    refine (HT.out W1 HR.out).mono ?_; rintro e W2 ⟨⟨ta, tc, rfl, -⟩, hrd, hkp⟩
    have HR := Lib.hid hrd
    have HK := Lib.hid (step_kp HK.out hkp)
    have HBX := Lib.hid (step_box HBX.out hkp (by omega))
    clear hrd hkp
    go_wp2_with fail
    have hB3 := HBX.out.lt
    obtain ⟨B3, hB3e⟩ : ∃ B3, W2.heap.size = B3 := ⟨_, rfl⟩
    have HX3 := Lib.hid (BoxN.new W2 #[.string ⟨#[]⟩, .slice none 0 0, .slice none 0 0, .slice none 0 0, .slice none 0 0, .slice none 0 0, .slice none 0 0] 30)
    have HK := Lib.hid (HK.out.alloc (.cells #[.string ⟨#[]⟩, .slice none 0 0, .slice none 0 0, .slice none 0 0, .slice none 0 0, .slice none 0 0, .slice none 0 0] 30) (by omega))
    have HBX := Lib.hid (HBX.out.below (bAlloc (Below.refl W2.heap.size W2) (.cells #[.string ⟨#[]⟩, .slice none 0 0, .slice none 0 0, .slice none 0 0, .slice none 0 0, .slice none 0 0, .slice none 0 0] 30)) hB3)
    have HR := Lib.hid (HR.out.below (bAlloc (Below.refl _ _) (.cells #[.string ⟨#[]⟩, .slice none 0 0, .slice none 0 0, .slice none 0 0, .slice none 0 0, .slice none 0 0, .slice none 0 0] 30)))
    obtain ⟨V0, hV0⟩ : ∃ V0, W2.alloc (.cells #[.string ⟨#[]⟩, .slice none 0 0, .slice none 0 0, .slice none 0 0, .slice none 0 0, .slice none 0 0, .slice none 0 0] 30) = V0 := ⟨_, rfl⟩
    have hv0 : B3 < V0.heap.size := by rw [← hV0, size_alloc, hB3e]; omega
    rw [hV0] at HX3 HK HBX HR ⊢
    rw [hB3e] at HX3 hB3 ⊢
    clear hV0 hB3e
    refine (HC1.out V0 HR.out).mono ?_; rintro e U1 ⟨rfl, hrd, hkp⟩
    have HU := Lib.hid (step_box HX3.out hkp (by omega))
    have t0 : U1.cell? ⟨B3, 0, none⟩ = some (.string ⟨#[]⟩) := HU.out.cell 0
    have tz : U1.frozen? ⟨B3, 0, none⟩ = false := HU.out.frozen 0
    have hk2 := Lib.hid (kp2 (X := B3) (j := 0) hkp (.string ⟨x1.toArray⟩))
    have hsz := hkp.size
    have HK := Lib.hid (kp_set (B := B3) (j := 0) (step_kp HK.out hkp) (by omega) (.string ⟨x1.toArray⟩))
    have HBX := Lib.hid (step_box (step_box HBX.out hkp (by omega)) (KP.set1 U1 B3 0 (.string ⟨x1.toArray⟩)) (by omega))
    have HR := Lib.hid (rd_setB (B := B3) (j := 0) hrd (by omega) (.string ⟨x1.toArray⟩))
    have HX3 := Lib.hid (HU.out.set 0 (.string ⟨x1.toArray⟩))
    clear hkp hrd hk2 HU
    go_upto_region 6 with fail
    obtain ⟨V1, hV⟩ : ∃ V, U1.setCell ⟨B3, 0, none⟩ (.string ⟨x1.toArray⟩) = V := ⟨_, rfl⟩
    have hv1 : V0.heap.size ≤ V1.heap.size := by rw [← hV, size_setCell]; exact hsz
    rw [hV] at HK HBX HR HX3  ⊢
    clear hV t0 tz hsz
    go_wp2_with fail
    refine (HC2.out V1 HR.out).mono ?_; rintro e U2 ⟨⟨a2, d2, rfl, hown⟩, hrd, hkp⟩
    have HU := Lib.hid (step_box HX3.out hkp (by omega))
    have t0 : U2.cell? ⟨B3, 1, none⟩ = some (.slice none 0 0) := HU.out.cell 1
    have tz : U2.frozen? ⟨B3, 1, none⟩ = false := HU.out.frozen 1
    have hk2 := Lib.hid (kp2 (X := B3) (j := 1) hkp (.slice a2 x2.length d2))
    have hsz := hkp.size
    have HK := Lib.hid (kp_set (B := B3) (j := 1) (step_kp HK.out hkp) (by omega) (.slice a2 x2.length d2))
    have HBX := Lib.hid (step_box (step_box HBX.out hkp (by omega)) (KP.set1 U2 B3 1 (.slice a2 x2.length d2)) (by omega))
    have HR := Lib.hid (rd_setB (B := B3) (j := 1) hrd (by omega) (.slice a2 x2.length d2))
    have HX3 := Lib.hid (HU.out.set 1 (.slice a2 x2.length d2))
    have HO1 := Lib.hid (own_kp hown (KP.set1 U2 B3 1 (.slice a2 x2.length d2)) (by omega))
    clear hkp hrd hown hk2 HU
    go_upto_region 7 with fail
    obtain ⟨V2, hV⟩ : ∃ V, U2.setCell ⟨B3, 1, none⟩ (.slice a2 x2.length d2) = V := ⟨_, rfl⟩
    have hv2 : V1.heap.size ≤ V2.heap.size := by rw [← hV, size_setCell]; exact hsz
    rw [hV] at HK HBX HR HX3 HO1 ⊢
    clear hV t0 tz hsz
    go_wp2_with fail
    refine (HC3.out V2 HR.out).mono ?_; rintro e U3 ⟨⟨gs, hgs, hnb, a3, d3, rfl, hown⟩, hrd, hkp⟩
    have HU := Lib.hid (step_box HX3.out hkp (by omega))
    have t0 : U3.cell? ⟨B3, 2, none⟩ = some (.slice none 0 0) := HU.out.cell 2
    have tz : U3.frozen? ⟨B3, 2, none⟩ = false := HU.out.frozen 2
    have hk2 := Lib.hid (kp2 (X := B3) (j := 2) hkp (.slice a3 gs.length d3))
    have hsz := hkp.size
    have HK := Lib.hid (kp_set (B := B3) (j := 2) (step_kp HK.out hkp) (by omega) (.slice a3 gs.length d3))
    have HBX := Lib.hid (step_box (step_box HBX.out hkp (by omega)) (KP.set1 U3 B3 2 (.slice a3 gs.length d3)) (by omega))
    have HR := Lib.hid (rd_setB (B := B3) (j := 2) hrd (by omega) (.slice a3 gs.length d3))
    have HX3 := Lib.hid (HU.out.set 2 (.slice a3 gs.length d3))
    have HO2 := Lib.hid (own_kp hown (KP.set1 U3 B3 2 (.slice a3 gs.length d3)) (by omega))
    have HNB := Lib.hid (fun g (hg : g ∈ gs) => (hnb g hg).kp (KP.set1 U3 B3 2 (.slice a3 gs.length d3)) (Nat.le_refl _) (fun b hb _ q => by have h1 : b = B3 := q; have h2 : V2.heap.size ≤ b := hb; omega))
    have HGS := Lib.hid hgs
    clear hnb hgs
    have HO1 := Lib.hid (own_kp2 HO1.out hk2.out (by omega) (by omega))
    clear hkp hrd hown hk2 HU
    go_upto_region 8 with fail
    obtain ⟨V3, hV⟩ : ∃ V, U3.setCell ⟨B3, 2, none⟩ (.slice a3 gs.length d3) = V := ⟨_, rfl⟩
    have hv3 : V2.heap.size ≤ V3.heap.size := by rw [← hV, size_setCell]; exact hsz
    rw [hV] at HK HBX HR HX3 HO1 HO2 HNB ⊢
    clear hV t0 tz hsz
    go_wp2_with fail
    refine (HC4.out V3 HR.out).mono ?_; rintro e U4 ⟨⟨a4, d4, rfl, hown⟩, hrd, hkp⟩
    have HU := Lib.hid (step_box HX3.out hkp (by omega))
    have t0 : U4.cell? ⟨B3, 3, none⟩ = some (.slice none 0 0) := HU.out.cell 3
    have tz : U4.frozen? ⟨B3, 3, none⟩ = false := HU.out.frozen 3
    have hk2 := Lib.hid (kp2 (X := B3) (j := 3) hkp (.slice a4 x4.length d4))
    have hsz := hkp.size
    have HK := Lib.hid (kp_set (B := B3) (j := 3) (step_kp HK.out hkp) (by omega) (.slice a4 x4.length d4))
    have HBX := Lib.hid (step_box (step_box HBX.out hkp (by omega)) (KP.set1 U4 B3 3 (.slice a4 x4.length d4)) (by omega))
    have HR := Lib.hid (rd_setB (B := B3) (j := 3) hrd (by omega) (.slice a4 x4.length d4))
    have HX3 := Lib.hid (HU.out.set 3 (.slice a4 x4.length d4))
    have HO3 := Lib.hid (own_kp hown (KP.set1 U4 B3 3 (.slice a4 x4.length d4)) (by omega))
    have HO1 := Lib.hid (own_kp2 HO1.out hk2.out (by omega) (by omega))
    have HO2 := Lib.hid (own_kp2 HO2.out hk2.out (by omega) (by omega))
    have HNB := Lib.hid (fun g (hg : g ∈ gs) => newB_kp2 (HNB.out g hg) hk2.out (B := V2.heap.size) (fun _ q => q) (by omega) (by omega))
    clear hkp hrd hown hk2 HU
    go_upto_region 9 with fail
    obtain ⟨V4, hV⟩ : ∃ V, U4.setCell ⟨B3, 3, none⟩ (.slice a4 x4.length d4) = V := ⟨_, rfl⟩
    have hv4 : V3.heap.size ≤ V4.heap.size := by rw [← hV, size_setCell]; exact hsz
    rw [hV] at HK HBX HR HX3 HO1 HO2 HO3 HNB ⊢
    clear hV t0 tz hsz
    go_wp2_with fail
    refine (HC5.out V4 HR.out).mono ?_; rintro e U5 ⟨⟨a5, d5, rfl, hown⟩, hrd, hkp⟩
    have HU := Lib.hid (step_box HX3.out hkp (by omega))
    have t0 : U5.cell? ⟨B3, 4, none⟩ = some (.slice none 0 0) := HU.out.cell 4
    have tz : U5.frozen? ⟨B3, 4, none⟩ = false := HU.out.frozen 4
    have hk2 := Lib.hid (kp2 (X := B3) (j := 4) hkp (.slice a5 x5.length d5))
    have hsz := hkp.size
    have HK := Lib.hid (kp_set (B := B3) (j := 4) (step_kp HK.out hkp) (by omega) (.slice a5 x5.length d5))
    have HBX := Lib.hid (step_box (step_box HBX.out hkp (by omega)) (KP.set1 U5 B3 4 (.slice a5 x5.length d5)) (by omega))
    have HR := Lib.hid (rd_setB (B := B3) (j := 4) hrd (by omega) (.slice a5 x5.length d5))
    have HX3 := Lib.hid (HU.out.set 4 (.slice a5 x5.length d5))
    have HO4 := Lib.hid (own_kp hown (KP.set1 U5 B3 4 (.slice a5 x5.length d5)) (by omega))
    have HO1 := Lib.hid (own_kp2 HO1.out hk2.out (by omega) (by omega))
    have HO2 := Lib.hid (own_kp2 HO2.out hk2.out (by omega) (by omega))
    have HO3 := Lib.hid (own_kp2 HO3.out hk2.out (by omega) (by omega))
    have HNB := Lib.hid (fun g (hg : g ∈ gs) => newB_kp2 (HNB.out g hg) hk2.out (B := V2.heap.size) (fun _ q => q) (by omega) (by omega))
    clear hkp hrd hown hk2 HU
    go_upto_region 10 with fail
    obtain ⟨V5, hV⟩ : ∃ V, U5.setCell ⟨B3, 4, none⟩ (.slice a5 x5.length d5) = V := ⟨_, rfl⟩
    have hv5 : V4.heap.size ≤ V5.heap.size := by rw [← hV, size_setCell]; exact hsz
    rw [hV] at HK HBX HR HX3 HO1 HO2 HO3 HO4 HNB ⊢
    clear hV t0 tz hsz
    go_wp2_with fail
    refine (HC6.out V5 HR.out).mono ?_; rintro e U6 ⟨⟨a6, d6, rfl, hown⟩, hrd, hkp⟩
    have HU := Lib.hid (step_box HX3.out hkp (by omega))
    have t0 : U6.cell? ⟨B3, 5, none⟩ = some (.slice none 0 0) := HU.out.cell 5
    have tz : U6.frozen? ⟨B3, 5, none⟩ = false := HU.out.frozen 5
    have hk2 := Lib.hid (kp2 (X := B3) (j := 5) hkp (.slice a6 x6.length d6))
    have hsz := hkp.size
    have HK := Lib.hid (kp_set (B := B3) (j := 5) (step_kp HK.out hkp) (by omega) (.slice a6 x6.length d6))
    have HBX := Lib.hid (step_box (step_box HBX.out hkp (by omega)) (KP.set1 U6 B3 5 (.slice a6 x6.length d6)) (by omega))
    have HR := Lib.hid (rd_setB (B := B3) (j := 5) hrd (by omega) (.slice a6 x6.length d6))
    have HX3 := Lib.hid (HU.out.set 5 (.slice a6 x6.length d6))
    have HO5 := Lib.hid (own_kp hown (KP.set1 U6 B3 5 (.slice a6 x6.length d6)) (by omega))
    have HO1 := Lib.hid (own_kp2 HO1.out hk2.out (by omega) (by omega))
    have HO2 := Lib.hid (own_kp2 HO2.out hk2.out (by omega) (by omega))
    have HO3 := Lib.hid (own_kp2 HO3.out hk2.out (by omega) (by omega))
    have HO4 := Lib.hid (own_kp2 HO4.out hk2.out (by omega) (by omega))
    have HNB := Lib.hid (fun g (hg : g ∈ gs) => newB_kp2 (HNB.out g hg) hk2.out (B := V2.heap.size) (fun _ q => q) (by omega) (by omega))
    clear hkp hrd hown hk2 HU
    go_upto_region 11 with fail
    obtain ⟨V6, hV⟩ : ∃ V, U6.setCell ⟨B3, 5, none⟩ (.slice a6 x6.length d6) = V := ⟨_, rfl⟩
    have hv6 : V5.heap.size ≤ V6.heap.size := by rw [← hV, size_setCell]; exact hsz
    rw [hV] at HK HBX HR HX3 HO1 HO2 HO3 HO4 HO5 HNB ⊢
    clear hV t0 tz hsz
    go_wp2_with fail
    refine (HC7.out V6 HR.out).mono ?_; rintro e U7 ⟨⟨a7, d7, rfl, hown⟩, hrd, hkp⟩
    have HU := Lib.hid (step_box HX3.out hkp (by omega))
    have t0 : U7.cell? ⟨B3, 6, none⟩ = some (.slice none 0 0) := HU.out.cell 6
    have tz : U7.frozen? ⟨B3, 6, none⟩ = false := HU.out.frozen 6
    have hk2 := Lib.hid (kp2 (X := B3) (j := 6) hkp (.slice a7 x7.length d7))
    have hsz := hkp.size
    have HK := Lib.hid (kp_set (B := B3) (j := 6) (step_kp HK.out hkp) (by omega) (.slice a7 x7.length d7))
    have HBX := Lib.hid (step_box (step_box HBX.out hkp (by omega)) (KP.set1 U7 B3 6 (.slice a7 x7.length d7)) (by omega))
    have HR := Lib.hid (rd_setB (B := B3) (j := 6) hrd (by omega) (.slice a7 x7.length d7))
    have HX3 := Lib.hid (HU.out.set 6 (.slice a7 x7.length d7))
    have HO6 := Lib.hid (own_kp hown (KP.set1 U7 B3 6 (.slice a7 x7.length d7)) (by omega))
    have HO1 := Lib.hid (own_kp2 HO1.out hk2.out (by omega) (by omega))
    have HO2 := Lib.hid (own_kp2 HO2.out hk2.out (by omega) (by omega))
    have HO3 := Lib.hid (own_kp2 HO3.out hk2.out (by omega) (by omega))
    have HO4 := Lib.hid (own_kp2 HO4.out hk2.out (by omega) (by omega))
    have HO5 := Lib.hid (own_kp2 HO5.out hk2.out (by omega) (by omega))
    have HNB := Lib.hid (fun g (hg : g ∈ gs) => newB_kp2 (HNB.out g hg) hk2.out (B := V2.heap.size) (fun _ q => q) (by omega) (by omega))
    clear hkp hrd hown hk2 HU
    go_upto_region 12 with fail
    obtain ⟨V7, hV⟩ : ∃ V, U7.setCell ⟨B3, 6, none⟩ (.slice a7 x7.length d7) = V := ⟨_, rfl⟩
    have hv7 : V6.heap.size ≤ V7.heap.size := by rw [← hV, size_setCell]; exact hsz
    rw [hV] at HK HBX HR HX3 HO1 HO2 HO3 HO4 HO5 HO6 HNB ⊢
    clear hV t0 tz hsz
    have HX3 := Lib.hid (show BoxN V7 B3 #[.string ⟨x1.toArray⟩, .slice a2 x2.length d2, .slice a3 gs.length d3, .slice a4 x4.length d4, .slice a5 x5.length d5, .slice a6 x6.length d6, .slice a7 x7.length d7] from HX3.out)
    have y0 : V7.cell? ⟨B3, 0, none⟩ = some (.string ⟨x1.toArray⟩) := HX3.out.cell 0
    have c0 : V7.cell? ⟨W.heap.size, 0, none⟩ = some (.string ⟨#[]⟩) := HBX.out.cell 0
    have z0 : V7.frozen? ⟨W.heap.size, 0, none⟩ = false := HBX.out.frozen 0
    have y1 : V7.cell? ⟨B3, 1, none⟩ = some (.slice a2 x2.length d2) := HX3.out.cell 1
    have c1 : V7.cell? ⟨W.heap.size, 1, none⟩ = some (.slice none 0 0) := HBX.out.cell 1
    have z1 : V7.frozen? ⟨W.heap.size, 1, none⟩ = false := HBX.out.frozen 1
    have y2 : V7.cell? ⟨B3, 2, none⟩ = some (.slice a3 gs.length d3) := HX3.out.cell 2
    have c2 : V7.cell? ⟨W.heap.size, 2, none⟩ = some (.slice none 0 0) := HBX.out.cell 2
    have z2 : V7.frozen? ⟨W.heap.size, 2, none⟩ = false := HBX.out.frozen 2
    have y3 : V7.cell? ⟨B3, 3, none⟩ = some (.slice a4 x4.length d4) := HX3.out.cell 3
    have c3 : V7.cell? ⟨W.heap.size, 3, none⟩ = some (.slice none 0 0) := HBX.out.cell 3
    have z3 : V7.frozen? ⟨W.heap.size, 3, none⟩ = false := HBX.out.frozen 3
    have y4 : V7.cell? ⟨B3, 4, none⟩ = some (.slice a5 x5.length d5) := HX3.out.cell 4
    have c4 : V7.cell? ⟨W.heap.size, 4, none⟩ = some (.slice none 0 0) := HBX.out.cell 4
    have z4 : V7.frozen? ⟨W.heap.size, 4, none⟩ = false := HBX.out.frozen 4
    have y5 : V7.cell? ⟨B3, 5, none⟩ = some (.slice a6 x6.length d6) := HX3.out.cell 5
    have c5 : V7.cell? ⟨W.heap.size, 5, none⟩ = some (.slice none 0 0) := HBX.out.cell 5
    have z5 : V7.frozen? ⟨W.heap.size, 5, none⟩ = false := HBX.out.frozen 5
    have y6 : V7.cell? ⟨B3, 6, none⟩ = some (.slice a7 x7.length d7) := HX3.out.cell 6
    have c6 : V7.cell? ⟨W.heap.size, 6, none⟩ = some (.slice none 0 0) := HBX.out.cell 6
    have z6 : V7.frozen? ⟨W.heap.size, 6, none⟩ = false := HBX.out.frozen 6
    go_wp2_with fail
    have hbx : BoxN (((((((V7.setCell ⟨W.heap.size, 0, none⟩ (.string ⟨x1.toArray⟩)).setCell ⟨W.heap.size, 1, none⟩ (.slice a2 x2.length d2)).setCell ⟨W.heap.size, 2, none⟩ (.slice a3 gs.length d3)).setCell ⟨W.heap.size, 3, none⟩ (.slice a4 x4.length d4)).setCell ⟨W.heap.size, 4, none⟩ (.slice a5 x5.length d5)).setCell ⟨W.heap.size, 5, none⟩ (.slice a6 x6.length d6)).setCell ⟨W.heap.size, 6, none⟩ (.slice a7 x7.length d7)) W.heap.size #[.string ⟨x1.toArray⟩, .slice a2 x2.length d2, .slice a3 gs.length d3, .slice a4 x4.length d4, .slice a5 x5.length d5, .slice a6 x6.length d6, .slice a7 x7.length d7] := (((((((HBX.out.set 0 (.string ⟨x1.toArray⟩)).set 1 (.slice a2 x2.length d2)).set 2 (.slice a3 gs.length d3)).set 3 (.slice a4 x4.length d4)).set 4 (.slice a5 x5.length d5)).set 5 (.slice a6 x6.length d6)).set 6 (.slice a7 x7.length d7))
    have HRF := Lib.hid (show RdAt base R (((((((V7.setCell ⟨W.heap.size, 0, none⟩ (.string ⟨x1.toArray⟩)).setCell ⟨W.heap.size, 1, none⟩ (.slice a2 x2.length d2)).setCell ⟨W.heap.size, 2, none⟩ (.slice a3 gs.length d3)).setCell ⟨W.heap.size, 3, none⟩ (.slice a4 x4.length d4)).setCell ⟨W.heap.size, 4, none⟩ (.slice a5 x5.length d5)).setCell ⟨W.heap.size, 5, none⟩ (.slice a6 x6.length d6)).setCell ⟨W.heap.size, 6, none⟩ (.slice a7 x7.length d7)) s7 from (rd_setB (B := W.heap.size) (j := 6) (rd_setB (B := W.heap.size) (j := 5) (rd_setB (B := W.heap.size) (j := 4) (rd_setB (B := W.heap.size) (j := 3) (rd_setB (B := W.heap.size) (j := 2) (rd_setB (B := W.heap.size) (j := 1) (rd_setB (B := W.heap.size) (j := 0) HR.out hlt (.string ⟨x1.toArray⟩)) hlt (.slice a2 x2.length d2)) hlt (.slice a3 gs.length d3)) hlt (.slice a4 x4.length d4)) hlt (.slice a5 x5.length d5)) hlt (.slice a6 x6.length d6)) hlt (.slice a7 x7.length d7)))
    have HKF := Lib.hid (show KP W.heap.size (· = R) W (((((((V7.setCell ⟨W.heap.size, 0, none⟩ (.string ⟨x1.toArray⟩)).setCell ⟨W.heap.size, 1, none⟩ (.slice a2 x2.length d2)).setCell ⟨W.heap.size, 2, none⟩ (.slice a3 gs.length d3)).setCell ⟨W.heap.size, 3, none⟩ (.slice a4 x4.length d4)).setCell ⟨W.heap.size, 4, none⟩ (.slice a5 x5.length d5)).setCell ⟨W.heap.size, 5, none⟩ (.slice a6 x6.length d6)).setCell ⟨W.heap.size, 6, none⟩ (.slice a7 x7.length d7)) from (kp_set (B := W.heap.size) (j := 6) (kp_set (B := W.heap.size) (j := 5) (kp_set (B := W.heap.size) (j := 4) (kp_set (B := W.heap.size) (j := 3) (kp_set (B := W.heap.size) (j := 2) (kp_set (B := W.heap.size) (j := 1) (kp_set (B := W.heap.size) (j := 0) HK.out (Nat.le_refl _) (.string ⟨x1.toArray⟩)) (Nat.le_refl _) (.slice a2 x2.length d2)) (Nat.le_refl _) (.slice a3 gs.length d3)) (Nat.le_refl _) (.slice a4 x4.length d4)) (Nat.le_refl _) (.slice a5 x5.length d5)) (Nat.le_refl _) (.slice a6 x6.length d6)) (Nat.le_refl _) (.slice a7 x7.length d7)))
    have HKV := Lib.hid (show KP V7.heap.size (· = W.heap.size) V7 (((((((V7.setCell ⟨W.heap.size, 0, none⟩ (.string ⟨x1.toArray⟩)).setCell ⟨W.heap.size, 1, none⟩ (.slice a2 x2.length d2)).setCell ⟨W.heap.size, 2, none⟩ (.slice a3 gs.length d3)).setCell ⟨W.heap.size, 3, none⟩ (.slice a4 x4.length d4)).setCell ⟨W.heap.size, 4, none⟩ (.slice a5 x5.length d5)).setCell ⟨W.heap.size, 5, none⟩ (.slice a6 x6.length d6)).setCell ⟨W.heap.size, 6, none⟩ (.slice a7 x7.length d7)) from (KP.set (KP.set (KP.set (KP.set (KP.set (KP.set (KP.set (KP.refl V7.heap.size (· = W.heap.size) V7) ⟨W.heap.size, 0, none⟩ (Or.inr rfl) (.string ⟨x1.toArray⟩)) ⟨W.heap.size, 1, none⟩ (Or.inr rfl) (.slice a2 x2.length d2)) ⟨W.heap.size, 2, none⟩ (Or.inr rfl) (.slice a3 gs.length d3)) ⟨W.heap.size, 3, none⟩ (Or.inr rfl) (.slice a4 x4.length d4)) ⟨W.heap.size, 4, none⟩ (Or.inr rfl) (.slice a5 x5.length d5)) ⟨W.heap.size, 5, none⟩ (Or.inr rfl) (.slice a6 x6.length d6)) ⟨W.heap.size, 6, none⟩ (Or.inr rfl) (.slice a7 x7.length d7)))
    obtain ⟨WF, hWF⟩ : ∃ W', (((((((V7.setCell ⟨W.heap.size, 0, none⟩ (.string ⟨x1.toArray⟩)).setCell ⟨W.heap.size, 1, none⟩ (.slice a2 x2.length d2)).setCell ⟨W.heap.size, 2, none⟩ (.slice a3 gs.length d3)).setCell ⟨W.heap.size, 3, none⟩ (.slice a4 x4.length d4)).setCell ⟨W.heap.size, 4, none⟩ (.slice a5 x5.length d5)).setCell ⟨W.heap.size, 5, none⟩ (.slice a6 x6.length d6)).setCell ⟨W.heap.size, 6, none⟩ (.slice a7 x7.length d7)) = W' := ⟨_, rfl⟩
    rw [hWF] at hbx HRF HKF HKV ⊢
    clear hWF
    have ho1 := own_kp HO1.out HKV.out (by omega)
    have ho2 := own_kp HO2.out HKV.out (by omega)
    have ho3 := own_kp HO3.out HKV.out (by omega)
    have ho4 := own_kp HO4.out HKV.out (by omega)
    have ho5 := own_kp HO5.out HKV.out (by omega)
    have ho6 := own_kp HO6.out HKV.out (by omega)
    have hnb := fun g (hg : g ∈ gs) => (HNB.out g hg).kp HKV.out (Nat.le_refl _) (fun b hb _ q => by have h1 : b = W.heap.size := q; have h2 : V2.heap.size ≤ b := hb; omega)
    have hfin : ∀ X, KP WF.heap.size (fun b => b ≤ W.heap.size) WF X → RdOb X ⟨x1, x2, gs, x4, x5, x6, x7, a2, d2, a3, d3, a4, d4, a5, d5, a6, d6, a7, d7⟩ := fun X hX => ⟨Rd.of_own (own_kpS ho1 hX (fun b hb q => by have h1 : b ≤ W.heap.size := q; omega)), own_rd (own_kpS ho2 hX (fun b hb q => by have h1 : b ≤ W.heap.size := q; omega)), fun g hg => ((hnb g hg).kp hX (Nat.le_refl _) (fun b hb _ q => by have h1 : b ≤ W.heap.size := q; have h2 : V2.heap.size ≤ b := hb; omega)).1, own_rd (own_kpS ho3 hX (fun b hb q => by have h1 : b ≤ W.heap.size := q; omega)), own_rd (own_kpS ho4 hX (fun b hb q => by have h1 : b ≤ W.heap.size := q; omega)), Rd.of_own (own_kpS ho5 hX (fun b hb q => by have h1 : b ≤ W.heap.size := q; omega)), Rd.of_own (own_kpS ho6 hX (fun b hb q => by have h1 : b ≤ W.heap.size := q; omega))⟩
    have hnc : x2.length ≤ d2 := by
      rcases ho1.2 with ⟨e, h0⟩ | ⟨g, cap, cur, e, _, _, h1, _⟩
      · omega
      · cases e; exact h1
    refine bodyPost_ret (v := .agg #[.string ⟨x1.toArray⟩, .slice a2 x2.length d2, .slice a3 gs.length d3, .slice a4 x4.length d4, .slice a5 x5.length d5, .slice a6 x6.length d6, .slice a7 x7.length d7]) ?_ rfl ⟨⟨⟨x1, x2, gs, x4, x5, x6, x7, a2, d2, a3, d3, a4, d4, a5, d5, a6, d6, a7, d7⟩, rfl, by unfold coreO; rw [HGS.out], hfin, hnc⟩, HRF.out, HKF.out⟩
    have q0 : WF.cell? ⟨W.heap.size, 0, none⟩ = some (.string ⟨x1.toArray⟩) := hbx.cell 0
    have q1 : WF.cell? ⟨W.heap.size, 1, none⟩ = some (.slice a2 x2.length d2) := hbx.cell 1
    have q2 : WF.cell? ⟨W.heap.size, 2, none⟩ = some (.slice a3 gs.length d3) := hbx.cell 2
    have q3 : WF.cell? ⟨W.heap.size, 3, none⟩ = some (.slice a4 x4.length d4) := hbx.cell 3
    have q4 : WF.cell? ⟨W.heap.size, 4, none⟩ = some (.slice a5 x5.length d5) := hbx.cell 4
    have q5 : WF.cell? ⟨W.heap.size, 5, none⟩ = some (.slice a6 x6.length d6) := hbx.cell 5
    have q6 : WF.cell? ⟨W.heap.size, 6, none⟩ = some (.slice a7 x7.length d7) := hbx.cell 6
    simp [results, Try.results14, go_sem, q0, q1, q2, q3, q4, q5, q6]
  | false =>
    have hsm : (⟨rest, 100⟩ : St) = sm := HMG.out
    have HR := Lib.hid (show RdAt base R ((W0.drewN nq).setCell ⟨R, 1, none⟩ (.int .i64 100)) sm from hsm ▸ RdAt.err (show RdAt base R (W0.drewN nq) ⟨rest, wr⟩ from HR.out.below ⟨rfl, rfl, rfl, Nat.le_refl _, fun _ _ => rfl⟩) 100)
    have HK := Lib.hid (step_kp (show KP W.heap.size (· = R) W (W0.drewN nq) from HK.out.trans ⟨rfl, rfl, rfl, Nat.le_refl _, fun _ _ _ => rfl⟩) (KP.set1 (W0.drewN nq) R 1 (.int .i64 100)))
    have HBX := Lib.hid (step_box (show BoxN (W0.drewN nq) W.heap.size #[.string ⟨#[]⟩, .slice none 0 0, .slice none 0 0, .slice none 0 0, .slice none 0 0, .slice none 0 0, .slice none 0 0] from HBX.out) (KP.set1 (W0.drewN nq) R 1 (.int .i64 100)) (by omega))
    have c1 : (W0.drewN nq).cell? ⟨R, 1, none⟩ = some (.int .i64 wr) := c1
    have z1 : (W0.drewN nq).frozen? ⟨R, 1, none⟩ = false := z1
    go_wp2_with fail
    obtain ⟨W1, hW1⟩ : ∃ W1, (W0.drewN nq).setCell ⟨R, 1, none⟩ (.int .i64 100) = W1 := ⟨_, rfl⟩
    rw [hW1] at HR HK HBX ⊢
    clear hW1 c0 c1 z1 hst hrc
    refine (HT.out W1 HR.out).mono ?_; rintro e W2 ⟨⟨ta, tc, rfl, -⟩, hrd, hkp⟩
    have HR := Lib.hid hrd
    have HK := Lib.hid (step_kp HK.out hkp)
    have HBX := Lib.hid (step_box HBX.out hkp (by omega))
    clear hrd hkp
    go_wp2_with fail
    have hB3 := HBX.out.lt
    obtain ⟨B3, hB3e⟩ : ∃ B3, W2.heap.size = B3 := ⟨_, rfl⟩
    have HX3 := Lib.hid (BoxN.new W2 #[.string ⟨#[]⟩, .slice none 0 0, .slice none 0 0, .slice none 0 0, .slice none 0 0, .slice none 0 0, .slice none 0 0] 30)
    have HK := Lib.hid (HK.out.alloc (.cells #[.string ⟨#[]⟩, .slice none 0 0, .slice none 0 0, .slice none 0 0, .slice none 0 0, .slice none 0 0, .slice none 0 0] 30) (by omega))
    have HBX := Lib.hid (HBX.out.below (bAlloc (Below.refl W2.heap.size W2) (.cells #[.string ⟨#[]⟩, .slice none 0 0, .slice none 0 0, .slice none 0 0, .slice none 0 0, .slice none 0 0, .slice none 0 0] 30)) hB3)
    have HR := Lib.hid (HR.out.below (bAlloc (Below.refl _ _) (.cells #[.string ⟨#[]⟩, .slice none 0 0, .slice none 0 0, .slice none 0 0, .slice none 0 0, .slice none 0 0, .slice none 0 0] 30)))
    obtain ⟨V0, hV0⟩ : ∃ V0, W2.alloc (.cells #[.string ⟨#[]⟩, .slice none 0 0, .slice none 0 0, .slice none 0 0, .slice none 0 0, .slice none 0 0, .slice none 0 0] 30) = V0 := ⟨_, rfl⟩
    have hv0 : B3 < V0.heap.size := by rw [← hV0, size_alloc, hB3e]; omega
    rw [hV0] at HX3 HK HBX HR ⊢
    rw [hB3e] at HX3 hB3 ⊢
    clear hV0 hB3e
    refine (HC1.out V0 HR.out).mono ?_; rintro e U1 ⟨rfl, hrd, hkp⟩
    have HU := Lib.hid (step_box HX3.out hkp (by omega))
    have t0 : U1.cell? ⟨B3, 0, none⟩ = some (.string ⟨#[]⟩) := HU.out.cell 0
    have tz : U1.frozen? ⟨B3, 0, none⟩ = false := HU.out.frozen 0
    have hk2 := Lib.hid (kp2 (X := B3) (j := 0) hkp (.string ⟨x1.toArray⟩))
    have hsz := hkp.size
    have HK := Lib.hid (kp_set (B := B3) (j := 0) (step_kp HK.out hkp) (by omega) (.string ⟨x1.toArray⟩))
    have HBX := Lib.hid (step_box (step_box HBX.out hkp (by omega)) (KP.set1 U1 B3 0 (.string ⟨x1.toArray⟩)) (by omega))
    have HR := Lib.hid (rd_setB (B := B3) (j := 0) hrd (by omega) (.string ⟨x1.toArray⟩))
    have HX3 := Lib.hid (HU.out.set 0 (.string ⟨x1.toArray⟩))
    clear hkp hrd hk2 HU
    go_upto_region 6 with fail
    obtain ⟨V1, hV⟩ : ∃ V, U1.setCell ⟨B3, 0, none⟩ (.string ⟨x1.toArray⟩) = V := ⟨_, rfl⟩
    have hv1 : V0.heap.size ≤ V1.heap.size := by rw [← hV, size_setCell]; exact hsz
    rw [hV] at HK HBX HR HX3  ⊢
    clear hV t0 tz hsz
    go_wp2_with fail
    refine (HC2.out V1 HR.out).mono ?_; rintro e U2 ⟨⟨a2, d2, rfl, hown⟩, hrd, hkp⟩
    have HU := Lib.hid (step_box HX3.out hkp (by omega))
    have t0 : U2.cell? ⟨B3, 1, none⟩ = some (.slice none 0 0) := HU.out.cell 1
    have tz : U2.frozen? ⟨B3, 1, none⟩ = false := HU.out.frozen 1
    have hk2 := Lib.hid (kp2 (X := B3) (j := 1) hkp (.slice a2 x2.length d2))
    have hsz := hkp.size
    have HK := Lib.hid (kp_set (B := B3) (j := 1) (step_kp HK.out hkp) (by omega) (.slice a2 x2.length d2))
    have HBX := Lib.hid (step_box (step_box HBX.out hkp (by omega)) (KP.set1 U2 B3 1 (.slice a2 x2.length d2)) (by omega))
    have HR := Lib.hid (rd_setB (B := B3) (j := 1) hrd (by omega) (.slice a2 x2.length d2))
    have HX3 := Lib.hid (HU.out.set 1 (.slice a2 x2.length d2))
    have HO1 := Lib.hid (own_kp hown (KP.set1 U2 B3 1 (.slice a2 x2.length d2)) (by omega))
    clear hkp hrd hown hk2 HU
    go_upto_region 7 with fail
    obtain ⟨V2, hV⟩ : ∃ V, U2.setCell ⟨B3, 1, none⟩ (.slice a2 x2.length d2) = V := ⟨_, rfl⟩
    have hv2 : V1.heap.size ≤ V2.heap.size := by rw [← hV, size_setCell]; exact hsz
    rw [hV] at HK HBX HR HX3 HO1 ⊢
    clear hV t0 tz hsz
    go_wp2_with fail
    refine (HC3.out V2 HR.out).mono ?_; rintro e U3 ⟨⟨gs, hgs, hnb, a3, d3, rfl, hown⟩, hrd, hkp⟩
    have HU := Lib.hid (step_box HX3.out hkp (by omega))
    have t0 : U3.cell? ⟨B3, 2, none⟩ = some (.slice none 0 0) := HU.out.cell 2
    have tz : U3.frozen? ⟨B3, 2, none⟩ = false := HU.out.frozen 2
    have hk2 := Lib.hid (kp2 (X := B3) (j := 2) hkp (.slice a3 gs.length d3))
    have hsz := hkp.size
    have HK := Lib.hid (kp_set (B := B3) (j := 2) (step_kp HK.out hkp) (by omega) (.slice a3 gs.length d3))
    have HBX := Lib.hid (step_box (step_box HBX.out hkp (by omega)) (KP.set1 U3 B3 2 (.slice a3 gs.length d3)) (by omega))
    have HR := Lib.hid (rd_setB (B := B3) (j := 2) hrd (by omega) (.slice a3 gs.length d3))
    have HX3 := Lib.hid (HU.out.set 2 (.slice a3 gs.length d3))
    have HO2 := Lib.hid (own_kp hown (KP.set1 U3 B3 2 (.slice a3 gs.length d3)) (by omega))
    have HNB := Lib.hid (fun g (hg : g ∈ gs) => (hnb g hg).kp (KP.set1 U3 B3 2 (.slice a3 gs.length d3)) (Nat.le_refl _) (fun b hb _ q => by have h1 : b = B3 := q; have h2 : V2.heap.size ≤ b := hb; omega))
    have HGS := Lib.hid hgs
    clear hnb hgs
    have HO1 := Lib.hid (own_kp2 HO1.out hk2.out (by omega) (by omega))
    clear hkp hrd hown hk2 HU
    go_upto_region 8 with fail
    obtain ⟨V3, hV⟩ : ∃ V, U3.setCell ⟨B3, 2, none⟩ (.slice a3 gs.length d3) = V := ⟨_, rfl⟩
    have hv3 : V2.heap.size ≤ V3.heap.size := by rw [← hV, size_setCell]; exact hsz
    rw [hV] at HK HBX HR HX3 HO1 HO2 HNB ⊢
    clear hV t0 tz hsz
    go_wp2_with fail
    refine (HC4.out V3 HR.out).mono ?_; rintro e U4 ⟨⟨a4, d4, rfl, hown⟩, hrd, hkp⟩
    have HU := Lib.hid (step_box HX3.out hkp (by omega))
    have t0 : U4.cell? ⟨B3, 3, none⟩ = some (.slice none 0 0) := HU.out.cell 3
    have tz : U4.frozen? ⟨B3, 3, none⟩ = false := HU.out.frozen 3
    have hk2 := Lib.hid (kp2 (X := B3) (j := 3) hkp (.slice a4 x4.length d4))
    have hsz := hkp.size
    have HK := Lib.hid (kp_set (B := B3) (j := 3) (step_kp HK.out hkp) (by omega) (.slice a4 x4.length d4))
    have HBX := Lib.hid (step_box (step_box HBX.out hkp (by omega)) (KP.set1 U4 B3 3 (.slice a4 x4.length d4)) (by omega))
    have HR := Lib.hid (rd_setB (B := B3) (j := 3) hrd (by omega) (.slice a4 x4.length d4))
    have HX3 := Lib.hid (HU.out.set 3 (.slice a4 x4.length d4))
    have HO3 := Lib.hid (own_kp hown (KP.set1 U4 B3 3 (.slice a4 x4.length d4)) (by omega))
    have HO1 := Lib.hid (own_kp2 HO1.out hk2.out (by omega) (by omega))
    have HO2 := Lib.hid (own_kp2 HO2.out hk2.out (by omega) (by omega))
    have HNB := Lib.hid (fun g (hg : g ∈ gs) => newB_kp2 (HNB.out g hg) hk2.out (B := V2.heap.size) (fun _ q => q) (by omega) (by omega))
    clear hkp hrd hown hk2 HU
    go_upto_region 9 with fail
    obtain ⟨V4, hV⟩ : ∃ V, U4.setCell ⟨B3, 3, none⟩ (.slice a4 x4.length d4) = V := ⟨_, rfl⟩
    have hv4 : V3.heap.size ≤ V4.heap.size := by rw [← hV, size_setCell]; exact hsz
    rw [hV] at HK HBX HR HX3 HO1 HO2 HO3 HNB ⊢
    clear hV t0 tz hsz
    go_wp2_with fail
    refine (HC5.out V4 HR.out).mono ?_; rintro e U5 ⟨⟨a5, d5, rfl, hown⟩, hrd, hkp⟩
    have HU := Lib.hid (step_box HX3.out hkp (by omega))
    have t0 : U5.cell? ⟨B3, 4, none⟩ = some (.slice none 0 0) := HU.out.cell 4
    have tz : U5.frozen? ⟨B3, 4, none⟩ = false := HU.out.frozen 4
    have hk2 := Lib.hid (kp2 (X := B3) (j := 4) hkp (.slice a5 x5.length d5))
    have hsz := hkp.size
    have HK := Lib.hid (kp_set (B := B3) (j := 4) (step_kp HK.out hkp) (by omega) (.slice a5 x5.length d5))
    have HBX := Lib.hid (step_box (step_box HBX.out hkp (by omega)) (KP.set1 U5 B3 4 (.slice a5 x5.length d5)) (by omega))
    have HR := Lib.hid (rd_setB (B := B3) (j := 4) hrd (by omega) (.slice a5 x5.length d5))
    have HX3 := Lib.hid (HU.out.set 4 (.slice a5 x5.length d5))
    have HO4 := Lib.hid (own_kp hown (KP.set1 U5 B3 4 (.slice a5 x5.length d5)) (by omega))
    have HO1 := Lib.hid (own_kp2 HO1.out hk2.out (by omega) (by omega))
    have HO2 := Lib.hid (own_kp2 HO2.out hk2.out (by omega) (by omega))
    have HO3 := Lib.hid (own_kp2 HO3.out hk2.out (by omega) (by omega))
    have HNB := Lib.hid (fun g (hg : g ∈ gs) => newB_kp2 (HNB.out g hg) hk2.out (B := V2.heap.size) (fun _ q => q) (by omega) (by omega))
    clear hkp hrd hown hk2 HU
    go_upto_region 10 with fail
    obtain ⟨V5, hV⟩ : ∃ V, U5.setCell ⟨B3, 4, none⟩ (.slice a5 x5.length d5) = V := ⟨_, rfl⟩
    have hv5 : V4.heap.size ≤ V5.heap.size := by rw [← hV, size_setCell]; exact hsz
    rw [hV] at HK HBX HR HX3 HO1 HO2 HO3 HO4 HNB ⊢
    clear hV t0 tz hsz
    go_wp2_with fail
    refine (HC6.out V5 HR.out).mono ?_; rintro e U6 ⟨⟨a6, d6, rfl, hown⟩, hrd, hkp⟩
    have HU := Lib.hid (step_box HX3.out hkp (by omega))
    have t0 : U6.cell? ⟨B3, 5, none⟩ = some (.slice none 0 0) := HU.out.cell 5
    have tz : U6.frozen? ⟨B3, 5, none⟩ = false := HU.out.frozen 5
    have hk2 := Lib.hid (kp2 (X := B3) (j := 5) hkp (.slice a6 x6.length d6))
    have hsz := hkp.size
    have HK := Lib.hid (kp_set (B := B3) (j := 5) (step_kp HK.out hkp) (by omega) (.slice a6 x6.length d6))
    have HBX := Lib.hid (step_box (step_box HBX.out hkp (by omega)) (KP.set1 U6 B3 5 (.slice a6 x6.length d6)) (by omega))
    have HR := Lib.hid (rd_setB (B := B3) (j := 5) hrd (by omega) (.slice a6 x6.length d6))
    have HX3 := Lib.hid (HU.out.set 5 (.slice a6 x6.length d6))
    have HO5 := Lib.hid (own_kp hown (KP.set1 U6 B3 5 (.slice a6 x6.length d6)) (by omega))
    have HO1 := Lib.hid (own_kp2 HO1.out hk2.out (by omega) (by omega))
    have HO2 := Lib.hid (own_kp2 HO2.out hk2.out (by omega) (by omega))
    have HO3 := Lib.hid (own_kp2 HO3.out hk2.out (by omega) (by omega))
    have HO4 := Lib.hid (own_kp2 HO4.out hk2.out (by omega) (by omega))
    have HNB := Lib.hid (fun g (hg : g ∈ gs) => newB_kp2 (HNB.out g hg) hk2.out (B := V2.heap.size) (fun _ q => q) (by omega) (by omega))
    clear hkp hrd hown hk2 HU
    go_upto_region 11 with fail
    obtain ⟨V6, hV⟩ : ∃ V, U6.setCell ⟨B3, 5, none⟩ (.slice a6 x6.length d6) = V := ⟨_, rfl⟩
    have hv6 : V5.heap.size ≤ V6.heap.size := by rw [← hV, size_setCell]; exact hsz
    rw [hV] at HK HBX HR HX3 HO1 HO2 HO3 HO4 HO5 HNB ⊢
    clear hV t0 tz hsz
    go_wp2_with fail
    refine (HC7.out V6 HR.out).mono ?_; rintro e U7 ⟨⟨a7, d7, rfl, hown⟩, hrd, hkp⟩
    have HU := Lib.hid (step_box HX3.out hkp (by omega))
    have t0 : U7.cell? ⟨B3, 6, none⟩ = some (.slice none 0 0) := HU.out.cell 6
    have tz : U7.frozen? ⟨B3, 6, none⟩ = false := HU.out.frozen 6
    have hk2 := Lib.hid (kp2 (X := B3) (j := 6) hkp (.slice a7 x7.length d7))
    have hsz := hkp.size
    have HK := Lib.hid (kp_set (B := B3) (j := 6) (step_kp HK.out hkp) (by omega) (.slice a7 x7.length d7))
    have HBX := Lib.hid (step_box (step_box HBX.out hkp (by omega)) (KP.set1 U7 B3 6 (.slice a7 x7.length d7)) (by omega))
    have HR := Lib.hid (rd_setB (B := B3) (j := 6) hrd (by omega) (.slice a7 x7.length d7))
    have HX3 := Lib.hid (HU.out.set 6 (.slice a7 x7.length d7))
    have HO6 := Lib.hid (own_kp hown (KP.set1 U7 B3 6 (.slice a7 x7.length d7)) (by omega))
    have HO1 := Lib.hid (own_kp2 HO1.out hk2.out (by omega) (by omega))
    have HO2 := Lib.hid (own_kp2 HO2.out hk2.out (by omega) (by omega))
    have HO3 := Lib.hid (own_kp2 HO3.out hk2.out (by omega) (by omega))
    have HO4 := Lib.hid (own_kp2 HO4.out hk2.out (by omega) (by omega))
    have HO5 := Lib.hid (own_kp2 HO5.out hk2.out (by omega) (by omega))
    have HNB := Lib.hid (fun g (hg : g ∈ gs) => newB_kp2 (HNB.out g hg) hk2.out (B := V2.heap.size) (fun _ q => q) (by omega) (by omega))
    clear hkp hrd hown hk2 HU
    go_upto_region 12 with fail
    obtain ⟨V7, hV⟩ : ∃ V, U7.setCell ⟨B3, 6, none⟩ (.slice a7 x7.length d7) = V := ⟨_, rfl⟩
    have hv7 : V6.heap.size ≤ V7.heap.size := by rw [← hV, size_setCell]; exact hsz
    rw [hV] at HK HBX HR HX3 HO1 HO2 HO3 HO4 HO5 HO6 HNB ⊢
    clear hV t0 tz hsz
    have HX3 := Lib.hid (show BoxN V7 B3 #[.string ⟨x1.toArray⟩, .slice a2 x2.length d2, .slice a3 gs.length d3, .slice a4 x4.length d4, .slice a5 x5.length d5, .slice a6 x6.length d6, .slice a7 x7.length d7] from HX3.out)
    have y0 : V7.cell? ⟨B3, 0, none⟩ = some (.string ⟨x1.toArray⟩) := HX3.out.cell 0
    have c0 : V7.cell? ⟨W.heap.size, 0, none⟩ = some (.string ⟨#[]⟩) := HBX.out.cell 0
    have z0 : V7.frozen? ⟨W.heap.size, 0, none⟩ = false := HBX.out.frozen 0
    have y1 : V7.cell? ⟨B3, 1, none⟩ = some (.slice a2 x2.length d2) := HX3.out.cell 1
    have c1 : V7.cell? ⟨W.heap.size, 1, none⟩ = some (.slice none 0 0) := HBX.out.cell 1
    have z1 : V7.frozen? ⟨W.heap.size, 1, none⟩ = false := HBX.out.frozen 1
    have y2 : V7.cell? ⟨B3, 2, none⟩ = some (.slice a3 gs.length d3) := HX3.out.cell 2
    have c2 : V7.cell? ⟨W.heap.size, 2, none⟩ = some (.slice none 0 0) := HBX.out.cell 2
    have z2 : V7.frozen? ⟨W.heap.size, 2, none⟩ = false := HBX.out.frozen 2
    have y3 : V7.cell? ⟨B3, 3, none⟩ = some (.slice a4 x4.length d4) := HX3.out.cell 3
    have c3 : V7.cell? ⟨W.heap.size, 3, none⟩ = some (.slice none 0 0) := HBX.out.cell 3
    have z3 : V7.frozen? ⟨W.heap.size, 3, none⟩ = false := HBX.out.frozen 3
    have y4 : V7.cell? ⟨B3, 4, none⟩ = some (.slice a5 x5.length d5) := HX3.out.cell 4
    have c4 : V7.cell? ⟨W.heap.size, 4, none⟩ = some (.slice none 0 0) := HBX.out.cell 4
    have z4 : V7.frozen? ⟨W.heap.size, 4, none⟩ = false := HBX.out.frozen 4
    have y5 : V7.cell? ⟨B3, 5, none⟩ = some (.slice a6 x6.length d6) := HX3.out.cell 5
    have c5 : V7.cell? ⟨W.heap.size, 5, none⟩ = some (.slice none 0 0) := HBX.out.cell 5
    have z5 : V7.frozen? ⟨W.heap.size, 5, none⟩ = false := HBX.out.frozen 5
    have y6 : V7.cell? ⟨B3, 6, none⟩ = some (.slice a7 x7.length d7) := HX3.out.cell 6
    have c6 : V7.cell? ⟨W.heap.size, 6, none⟩ = some (.slice none 0 0) := HBX.out.cell 6
    have z6 : V7.frozen? ⟨W.heap.size, 6, none⟩ = false := HBX.out.frozen 6
    go_wp2_with fail
    have hbx : BoxN (((((((V7.setCell ⟨W.heap.size, 0, none⟩ (.string ⟨x1.toArray⟩)).setCell ⟨W.heap.size, 1, none⟩ (.slice a2 x2.length d2)).setCell ⟨W.heap.size, 2, none⟩ (.slice a3 gs.length d3)).setCell ⟨W.heap.size, 3, none⟩ (.slice a4 x4.length d4)).setCell ⟨W.heap.size, 4, none⟩ (.slice a5 x5.length d5)).setCell ⟨W.heap.size, 5, none⟩ (.slice a6 x6.length d6)).setCell ⟨W.heap.size, 6, none⟩ (.slice a7 x7.length d7)) W.heap.size #[.string ⟨x1.toArray⟩, .slice a2 x2.length d2, .slice a3 gs.length d3, .slice a4 x4.length d4, .slice a5 x5.length d5, .slice a6 x6.length d6, .slice a7 x7.length d7] := (((((((HBX.out.set 0 (.string ⟨x1.toArray⟩)).set 1 (.slice a2 x2.length d2)).set 2 (.slice a3 gs.length d3)).set 3 (.slice a4 x4.length d4)).set 4 (.slice a5 x5.length d5)).set 5 (.slice a6 x6.length d6)).set 6 (.slice a7 x7.length d7))
    have HRF := Lib.hid (show RdAt base R (((((((V7.setCell ⟨W.heap.size, 0, none⟩ (.string ⟨x1.toArray⟩)).setCell ⟨W.heap.size, 1, none⟩ (.slice a2 x2.length d2)).setCell ⟨W.heap.size, 2, none⟩ (.slice a3 gs.length d3)).setCell ⟨W.heap.size, 3, none⟩ (.slice a4 x4.length d4)).setCell ⟨W.heap.size, 4, none⟩ (.slice a5 x5.length d5)).setCell ⟨W.heap.size, 5, none⟩ (.slice a6 x6.length d6)).setCell ⟨W.heap.size, 6, none⟩ (.slice a7 x7.length d7)) s7 from (rd_setB (B := W.heap.size) (j := 6) (rd_setB (B := W.heap.size) (j := 5) (rd_setB (B := W.heap.size) (j := 4) (rd_setB (B := W.heap.size) (j := 3) (rd_setB (B := W.heap.size) (j := 2) (rd_setB (B := W.heap.size) (j := 1) (rd_setB (B := W.heap.size) (j := 0) HR.out hlt (.string ⟨x1.toArray⟩)) hlt (.slice a2 x2.length d2)) hlt (.slice a3 gs.length d3)) hlt (.slice a4 x4.length d4)) hlt (.slice a5 x5.length d5)) hlt (.slice a6 x6.length d6)) hlt (.slice a7 x7.length d7)))
    have HKF := Lib.hid (show KP W.heap.size (· = R) W (((((((V7.setCell ⟨W.heap.size, 0, none⟩ (.string ⟨x1.toArray⟩)).setCell ⟨W.heap.size, 1, none⟩ (.slice a2 x2.length d2)).setCell ⟨W.heap.size, 2, none⟩ (.slice a3 gs.length d3)).setCell ⟨W.heap.size, 3, none⟩ (.slice a4 x4.length d4)).setCell ⟨W.heap.size, 4, none⟩ (.slice a5 x5.length d5)).setCell ⟨W.heap.size, 5, none⟩ (.slice a6 x6.length d6)).setCell ⟨W.heap.size, 6, none⟩ (.slice a7 x7.length d7)) from (kp_set (B := W.heap.size) (j := 6) (kp_set (B := W.heap.size) (j := 5) (kp_set (B := W.heap.size) (j := 4) (kp_set (B := W.heap.size) (j := 3) (kp_set (B := W.heap.size) (j := 2) (kp_set (B := W.heap.size) (j := 1) (kp_set (B := W.heap.size) (j := 0) HK.out (Nat.le_refl _) (.string ⟨x1.toArray⟩)) (Nat.le_refl _) (.slice a2 x2.length d2)) (Nat.le_refl _) (.slice a3 gs.length d3)) (Nat.le_refl _) (.slice a4 x4.length d4)) (Nat.le_refl _) (.slice a5 x5.length d5)) (Nat.le_refl _) (.slice a6 x6.length d6)) (Nat.le_refl _) (.slice a7 x7.length d7)))
    have HKV := Lib.hid (show KP V7.heap.size (· = W.heap.size) V7 (((((((V7.setCell ⟨W.heap.size, 0, none⟩ (.string ⟨x1.toArray⟩)).setCell ⟨W.heap.size, 1, none⟩ (.slice a2 x2.length d2)).setCell ⟨W.heap.size, 2, none⟩ (.slice a3 gs.length d3)).setCell ⟨W.heap.size, 3, none⟩ (.slice a4 x4.length d4)).setCell ⟨W.heap.size, 4, none⟩ (.slice a5 x5.length d5)).setCell ⟨W.heap.size, 5, none⟩ (.slice a6 x6.length d6)).setCell ⟨W.heap.size, 6, none⟩ (.slice a7 x7.length d7)) from (KP.set (KP.set (KP.set (KP.set (KP.set (KP.set (KP.set (KP.refl V7.heap.size (· = W.heap.size) V7) ⟨W.heap.size, 0, none⟩ (Or.inr rfl) (.string ⟨x1.toArray⟩)) ⟨W.heap.size, 1, none⟩ (Or.inr rfl) (.slice a2 x2.length d2)) ⟨W.heap.size, 2, none⟩ (Or.inr rfl) (.slice a3 gs.length d3)) ⟨W.heap.size, 3, none⟩ (Or.inr rfl) (.slice a4 x4.length d4)) ⟨W.heap.size, 4, none⟩ (Or.inr rfl) (.slice a5 x5.length d5)) ⟨W.heap.size, 5, none⟩ (Or.inr rfl) (.slice a6 x6.length d6)) ⟨W.heap.size, 6, none⟩ (Or.inr rfl) (.slice a7 x7.length d7)))
    obtain ⟨WF, hWF⟩ : ∃ W', (((((((V7.setCell ⟨W.heap.size, 0, none⟩ (.string ⟨x1.toArray⟩)).setCell ⟨W.heap.size, 1, none⟩ (.slice a2 x2.length d2)).setCell ⟨W.heap.size, 2, none⟩ (.slice a3 gs.length d3)).setCell ⟨W.heap.size, 3, none⟩ (.slice a4 x4.length d4)).setCell ⟨W.heap.size, 4, none⟩ (.slice a5 x5.length d5)).setCell ⟨W.heap.size, 5, none⟩ (.slice a6 x6.length d6)).setCell ⟨W.heap.size, 6, none⟩ (.slice a7 x7.length d7)) = W' := ⟨_, rfl⟩
    rw [hWF] at hbx HRF HKF HKV ⊢
    clear hWF
    have ho1 := own_kp HO1.out HKV.out (by omega)
    have ho2 := own_kp HO2.out HKV.out (by omega)
    have ho3 := own_kp HO3.out HKV.out (by omega)
    have ho4 := own_kp HO4.out HKV.out (by omega)
    have ho5 := own_kp HO5.out HKV.out (by omega)
    have ho6 := own_kp HO6.out HKV.out (by omega)
    have hnb := fun g (hg : g ∈ gs) => (HNB.out g hg).kp HKV.out (Nat.le_refl _) (fun b hb _ q => by have h1 : b = W.heap.size := q; have h2 : V2.heap.size ≤ b := hb; omega)
    have hfin : ∀ X, KP WF.heap.size (fun b => b ≤ W.heap.size) WF X → RdOb X ⟨x1, x2, gs, x4, x5, x6, x7, a2, d2, a3, d3, a4, d4, a5, d5, a6, d6, a7, d7⟩ := fun X hX => ⟨Rd.of_own (own_kpS ho1 hX (fun b hb q => by have h1 : b ≤ W.heap.size := q; omega)), own_rd (own_kpS ho2 hX (fun b hb q => by have h1 : b ≤ W.heap.size := q; omega)), fun g hg => ((hnb g hg).kp hX (Nat.le_refl _) (fun b hb _ q => by have h1 : b ≤ W.heap.size := q; have h2 : V2.heap.size ≤ b := hb; omega)).1, own_rd (own_kpS ho3 hX (fun b hb q => by have h1 : b ≤ W.heap.size := q; omega)), own_rd (own_kpS ho4 hX (fun b hb q => by have h1 : b ≤ W.heap.size := q; omega)), Rd.of_own (own_kpS ho5 hX (fun b hb q => by have h1 : b ≤ W.heap.size := q; omega)), Rd.of_own (own_kpS ho6 hX (fun b hb q => by have h1 : b ≤ W.heap.size := q; omega))⟩
    have hnc : x2.length ≤ d2 := by
      rcases ho1.2 with ⟨e, h0⟩ | ⟨g, cap, cur, e, _, _, h1, _⟩
      · omega
      · cases e; exact h1
    refine bodyPost_ret (v := .agg #[.string ⟨x1.toArray⟩, .slice a2 x2.length d2, .slice a3 gs.length d3, .slice a4 x4.length d4, .slice a5 x5.length d5, .slice a6 x6.length d6, .slice a7 x7.length d7]) ?_ rfl ⟨⟨⟨x1, x2, gs, x4, x5, x6, x7, a2, d2, a3, d3, a4, d4, a5, d5, a6, d6, a7, d7⟩, rfl, by unfold coreO; rw [HGS.out], hfin, hnc⟩, HRF.out, HKF.out⟩
    have q0 : WF.cell? ⟨W.heap.size, 0, none⟩ = some (.string ⟨x1.toArray⟩) := hbx.cell 0
    have q1 : WF.cell? ⟨W.heap.size, 1, none⟩ = some (.slice a2 x2.length d2) := hbx.cell 1
    have q2 : WF.cell? ⟨W.heap.size, 2, none⟩ = some (.slice a3 gs.length d3) := hbx.cell 2
    have q3 : WF.cell? ⟨W.heap.size, 3, none⟩ = some (.slice a4 x4.length d4) := hbx.cell 3
    have q4 : WF.cell? ⟨W.heap.size, 4, none⟩ = some (.slice a5 x5.length d5) := hbx.cell 4
    have q5 : WF.cell? ⟨W.heap.size, 5, none⟩ = some (.slice a6 x6.length d6) := hbx.cell 5
    have q6 : WF.cell? ⟨W.heap.size, 6, none⟩ = some (.slice a7 x7.length d7) := hbx.cell 6
    simp [results, Try.results14, go_sem, q0, q1, q2, q3, q4, q5, q6]
end Go.Proofs.Ytknldomgmogccaa
