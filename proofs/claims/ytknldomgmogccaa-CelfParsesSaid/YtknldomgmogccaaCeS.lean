/- What the reader reads of a segment: its contract. -/
import Derived.Test.YtknldomgmogccaaCeL
import Derived.Deep.RegionHeld3
import Derived.Deep.RegionLaw
import Derived.Deep.RegionWith
import Derived.Deep.Cut
import Derived.BigRegion
namespace Go.Proofs.Ytknldomgmogccaa
set_option linter.unusedVariables false
set_option linter.unusedSimpArgs false
open Go.Joins Go.ChangeShapes Go.WideShapes Go.ChangeAt Go.RowKit Go.Deep

theorem step_appE {P : Program} (sl el : TypeId) (z : Value) (k bytes : Nat) (hu : P.underlying sl = some (.slice el)) (hinfo : (P.info? el).map (fun i => (i.zero, i.size, i.bytes)) = some (some z, k, bytes)) (hzs : z.cells.size = k) (hk : 0 < k) (hby : bytes ≤ 1000)
    (w : World) {ops : Array Oper} {o : Oper} {a : Act} {K : Act → World → Prop} {Q : Exit → Act → World → Prop} {E : Prop} (hgd : o.guard = none) (s x : Operand) (ho : o.op = .call { callee := .builtin .append, args := #[s, x], argTypes := #[sl, sl] })
    (B : Nat) (v : Value) (n : Nat) (xs : List Value) (hs : a.eval s = v) (hown : w.ownsRow B el k v n xs) (am : Option Addr) (m c : Nat) (ys : List Value) (hx : a.eval x = .slice am m c) (hr : Rd w am (m * k) ys) (hone : ∀ u ∈ ys, u.oneCell' = true) (hnm : n + m ≤ 1000000) (hB : B ≤ w.heap.size)
    (h : ∀ a' c' w', w'.ownsRow B el k (.slice a' (n + m) c') (n + m) (xs ++ ys) → w.grownBy w' v.ownBlock → ((Value.slice a' (n + m) c').ownBlock = v.ownBlock ∨ (Value.slice a' (n + m) c').ownBlock = some w.heap.size) → K (a.put o.dst (.slice a' (n + m) c')) w') :
    if Region.wanted o (yielded ops a.tmps) = true then Oper.wp P o a w K Q else E := by
  have hw : Region.wanted o (yielded ops a.tmps) = true := by simp [Region.wanted, hgd]
  rw [if_pos hw]
  obtain ⟨a', c', w', hrun, h2, h3, h4⟩ := run_appE sl el z k bytes hu hinfo hzs hk hby w o.type B v n xs hown am m c ys hr hone hnm hB
  unfold Oper.wp execOp
  simp only [ho, resolve, invoke, builtin, Sem.run_bind, Sem.run_pure, Result.andThen_ok, List.map_toArray, List.map_cons, List.map_nil, hs, hx, hrun]
  exact h a' c' w' h2 h3 h4
theorem infoU8' : (Try.prog.info? 5).map (fun i => (i.zero, i.size, i.bytes)) = some (some (.int .u8 0), 1, 1) := by kernel_rfl
theorem u8v_one (l : List UInt8) : ∀ u ∈ u8v l, u.oneCell' = true := fun u hu => by
  obtain ⟨b, -, rfl⟩ := List.mem_map.1 hu
  rfl
theorem RdAt.drew {base R : Nat} {W : World} {s : St} (h : RdAt base R W s) : RdAt base R W.drew s := ⟨h.lo, h.box, h.len⟩
theorem BytesIn.rd {base : Nat} {W : World} {a : Option Addr} {l : List UInt8} (h : BytesIn base W a l) : Rd W a (l.length * 1) (u8v l) := by rw [Nat.mul_one]; exact h.1
/-- bytes that lie in a block of P -/
def NewB (P : Nat → Prop) (W : World) (a : Option Addr) (l : List UInt8) : Prop := Rd W a l.length (u8v l) ∧ (0 < l.length → ∃ b off, a = some ⟨b, off, none⟩ ∧ P b)
theorem NewB.kp {P : Nat → Prop} {n : Nat} {S : Nat → Prop} {W W' : World} {a : Option Addr} {l : List UInt8} (h : NewB P W a l) (hk : KP n S W W') (hn : W.heap.size ≤ n) (hS : ∀ b, P b → b < W.heap.size → ¬ S b) : NewB P W' a l :=
  ⟨hk.rd h.1 fun b off h0 e => by
    obtain ⟨b', off', e', hl⟩ := h.2 h0
    obtain ⟨b2, off2, e2, hl2, -⟩ := h.1.2 h0
    rw [e] at e'; cases e'
    rw [e] at e2; cases e2
    exact ⟨by omega, hS _ hl hl2⟩, h.2⟩
theorem NewB.mono {P P' : Nat → Prop} {W : World} {a : Option Addr} {l : List UInt8} (h : NewB P W a l) (hR : ∀ b, b < W.heap.size → P b → P' b) : NewB P' W a l :=
  ⟨h.1, fun h0 => by
    obtain ⟨b, off, e, hl⟩ := h.2 h0
    obtain ⟨b2, off2, e2, hl2, -⟩ := h.1.2 h0
    rw [e] at e2; cases e2
    exact ⟨b, off, e, hR b hl2 hl⟩⟩
theorem newB_of_own {B : Nat} {W : World} {a : Option Addr} {n c : Nat} {l : List UInt8} {e : TypeId} (h : W.ownsRow B e 1 (.slice a n c) n (u8v l)) (hn : l.length = n) : NewB (fun b => B ≤ b) W a l := by
  subst hn
  refine ⟨Rd.of_own h, fun h0 => ?_⟩
  rcases h.2 with ⟨-, e⟩ | ⟨g, cap, cur, e, hB, -⟩
  · omega
  · cases e
    exact ⟨g, 0, rfl, hB⟩
def segP (s : St) : (Int × Int × Int × List UInt8) × St :=
  let a := numP 4 s; let b := numP 4 a.2; let c := numP 1 b.2; let d := numP 4 c.2; let e := takeP d.1 d.2
  (((a.1 : Int), (b.1 : Int), (c.1 : Int), e.1), e.2)
set_option maxHeartbeats 4000000 in
set_option maxRecDepth 100000 in
theorem segment_any (base R : Nat) (s : St) (W : World) (h : RdAt base R W s) (hsh : s.rest.length ≤ 100000) :
    Calls Try.prog 41 #[.pointer (some ⟨R, 0, none⟩)] W fun e W' => (∃ g : Seg, e = .returned (.agg (segC g).toArray) ∧ (g.place, g.size, g.flags, g.bytes) = (segP s).1 ∧ NewB (fun b => W.heap.size ≤ b) W' g.ba g.bytes) ∧ RdAt base R W' (segP s).2 ∧ KP W.heap.size (· = R) W W' := by
  have hlt := h.lt
  have HC1 := Lib.hid (fun W (hW : RdAt base R W s) => full_any base R s W hW)
  obtain ⟨⟨x1, s1⟩, hx1⟩ : ∃ x, numP 4 s = x := ⟨_, rfl⟩
  rw [hx1] at HC1
  simp only [] at HC1
  have HC2 := Lib.hid (fun W (hW : RdAt base R W s1) => full_any base R s1 W hW)
  obtain ⟨⟨x2, s2⟩, hx2⟩ : ∃ x, numP 4 s1 = x := ⟨_, rfl⟩
  rw [hx2] at HC2
  simp only [] at HC2
  have HC3 := Lib.hid (fun W (hW : RdAt base R W s2) => byte_any base R s2 W hW)
  have hlt3 := numP_lt 1 s2
  obtain ⟨⟨x3, s3⟩, hx3⟩ : ∃ x, numP 1 s2 = x := ⟨_, rfl⟩
  rw [hx3] at HC3 hlt3
  simp only [] at HC3 hlt3
  have HC4 := Lib.hid (fun W (hW : RdAt base R W s3) => full_any base R s3 W hW)
  obtain ⟨⟨x4, s4⟩, hx4⟩ : ∃ x, numP 4 s3 = x := ⟨_, rfl⟩
  rw [hx4] at HC4
  simp only [] at HC4
  have hlt4 := numP_lt 4 s3
  rw [hx4] at hlt4
  have hlt4 : x4 < 4294967296 := hlt4
  have HC5 := Lib.hid (fun W (hW : RdAt base R W s4) => take_any base R s4 x4 W hW (by omega))
  obtain ⟨⟨x5, s5⟩, hx5⟩ : ∃ x, takeP x4 s4 = x := ⟨_, rfl⟩
  have h5l : x5.length ≤ s.rest.length := by
    have h1 := takeP_rest 4 s
    have h2 := takeP_rest 4 s1
    have h3 := takeP_rest 1 s2
    have h4 := takeP_rest 4 s3
    have e1 : (takeP 4 s).2 = s1 := congrArg Prod.snd hx1
    have e2 : (takeP 4 s1).2 = s2 := congrArg Prod.snd hx2
    have e3 : (takeP 1 s2).2 = s3 := congrArg Prod.snd hx3
    have e4 : (takeP 4 s3).2 = s4 := congrArg Prod.snd hx4
    rw [e1] at h1; rw [e2] at h2; rw [e3] at h3; rw [e4] at h4
    have h5 : x5.length ≤ s4.rest.length := by
      have : (takeP x4 s4).1 = x5 := by rw [hx5]
      rw [← this]
      unfold takeP
      split
      · split
        · simp
        · simp; omega
      · simp
    omega
  have hsp : segP s = (((x1 : Int), (x2 : Int), (x3 : Int), x5), s5) := by
    unfold segP
    simp only [hx1, hx2, hx3, hx4, hx5]
  rw [hsp]
  rw [hx5] at HC5
  simp only [] at HC5 ⊢
  have hw4 : IntKind.i64.wrap (x4 : Int) = (x4 : Int) := IntWalk.i64_in _ (by omega)
  have H := Lib.hid h
  have HL5 := Lib.hid (show x5.length ≤ 100000 by omega)
  obtain ⟨m, hm⟩ : ∃ m, x5.length = m := ⟨_, rfl⟩
  have HM := Lib.hid hm
  rw [hm] at HC5 HL5
  clear hsp h hsh h5l hm hx1 hx2 hx3 hx4 hx5
  go_enter Try.func41, Try.ntmps41
  go_wp2_with fail
  refine (HC1.out _ (H.out.below (bAlloc (Below.refl _ _) _))).mono ?_; rintro e W1 ⟨rfl, hrd, hkp⟩
  have HK := Lib.hid (step_kp (kp_alloc W R _) hkp)
  have HBX := Lib.hid (step_box (BoxN.new W #[.int .u64 0, .int .u64 0, .int .i64 0, .slice none 0 0] 39) hkp (by omega))
  have HR := Lib.hid hrd
  clear hrd hkp
  go_wp2_with fail
  refine (HC2.out _ HR.out).mono ?_; rintro e W2 ⟨rfl, hrd, hkp⟩
  have HK := Lib.hid (step_kp HK.out hkp)
  have HBX := Lib.hid (step_box HBX.out hkp (by omega))
  have HR := Lib.hid hrd
  clear hrd hkp
  go_wp2_with fail
  refine (HC3.out _ HR.out).mono ?_; rintro e W3 ⟨rfl, hrd, hkp⟩
  have HK := Lib.hid (step_kp HK.out hkp)
  have HBX := Lib.hid (step_box HBX.out hkp (by omega))
  have HR := Lib.hid hrd
  clear hrd hkp
  go_upto_region 2 with fail
  have hB3 := HBX.out.lt
  have hk3 : KP W3.heap.size (· = R) W3 (W3.alloc (.cells #[.int .u64 (x1 : Int), .int .u64 (x2 : Int), .int .i64 (x3 : Int), .slice none 0 0] 39)) := kp_alloc W3 R _
  have HB3 := Lib.hid (BoxN.new W3 #[.int .u64 (x1 : Int), .int .u64 (x2 : Int), .int .i64 (x3 : Int), .slice none 0 0] 39)
  have HK := Lib.hid (step_kp HK.out hk3)
  have HBX := Lib.hid (step_box HBX.out hk3 (by omega))
  have HR := Lib.hid (HR.out.below (bAlloc (Below.refl _ _) (.cells #[.int .u64 (x1 : Int), .int .u64 (x2 : Int), .int .i64 (x3 : Int), .slice none 0 0] 39)))
  have hR3 := HK.out.size
  clear hk3
  obtain ⟨B3, hB3e⟩ : ∃ B3, W3.heap.size = B3 := ⟨_, rfl⟩
  obtain ⟨W4, hW4⟩ : ∃ W4, W3.alloc (.cells #[.int .u64 (x1 : Int), .int .u64 (x2 : Int), .int .i64 (x3 : Int), .slice none 0 0] 39) = W4 := ⟨_, rfl⟩
  have hs4 : W4.heap.size = B3 + 1 := by rw [← hW4, size_alloc, hB3e]
  rw [hW4] at HB3 HK HBX HR ⊢
  rw [hB3e] at HB3 ⊢
  have hBR : W.heap.size < B3 := by
    have h1 := hB3
    omega
  clear hW4 hB3e hR3 hB3
  have t3 : W4.cell? ⟨B3, 3, none⟩ = some (.slice none 0 0) := HB3.out.cell 3
  have t3z : W4.frozen? ⟨B3, 3, none⟩ = false := HB3.out.frozen 3
  have HBD := Lib.hid (show BoxN W4.drew B3 _ from HB3.out)
  have HRD0 := Lib.hid HR.out.drew
  have HKD := Lib.hid HK.out.drew
  have HXD := Lib.hid (show BoxN W4.drew W.heap.size _ from HBX.out)
  have hsd : W4.drew.heap.size = B3 + 1 := hs4
  go_region_law (first
    | (go_simp; go_at_call 63; refine (HC4.out _ HRD0.out).mono ?_; rintro e W5 ⟨rfl, hrd, hkp⟩; have HR5 := Lib.hid hrd; have HK5 := Lib.hid (step_kp HKD.out hkp); have hz5 := hkp.size; have HX5 := Lib.hid (step_box HXD.out hkp (by omega)); have HB5 := Lib.hid (step_box HBD.out hkp (by omega)); have t35 : W5.cell? ⟨B3, 3, none⟩ = some (.slice none 0 0) := HB5.out.cell 3; have t3z5 : W5.frozen? ⟨B3, 3, none⟩ = false := HB5.out.frozen 3; clear hrd hkp; dsimp only)
    | (go_simp; go_at_call 37; refine (HC5.out _ HR5.out).mono ?_; rintro e W6 ⟨⟨ta, tc, rfl, hby⟩, hrd, hkp⟩; have HY6 := Lib.hid hby; have HR6 := Lib.hid hrd; have HK6 := Lib.hid (step_kp HK5.out hkp); have hz6 := hkp.size; have HX6 := Lib.hid (step_box HX5.out hkp (by omega)); have HB6 := Lib.hid (step_box HB5.out hkp (by omega)); have t36 : W6.cell? ⟨B3, 3, none⟩ = some (.slice none 0 0) := HB6.out.cell 3; have t3z6 : W6.frozen? ⟨B3, 3, none⟩ = false := HB6.out.frozen 3; clear hrd hkp hby; dsimp only)
    | (refine step_appE 22 5 (.int .u8 0) 1 1 Try.underlying22 infoU8' rfl (by decide) (by decide) _ rfl _ _ rfl W6.heap.size (.slice none 0 0) 0 [] rfl (World.ownsRow_nil _ _ _ _) ta m tc (u8v x5) rfl (by have h0 := HY6.out.rd; rw [HM.out] at h0; exact h0) (u8v_one x5) (by have := HL5.out; omega) (by first | exact Nat.le_refl _ | (simp; done)) ?_; intro a7 c7 W7 hown7 hgrow7 hat7; rw [Nat.zero_add, List.nil_append] at hown7; have NB7 := Lib.hid (newB_of_own hown7 HM.out); have hkf : KP W6.heap.size (fun _ => False) W6 W7 := (KP.refl W6.heap.size (fun _ => False) W6).grown hgrow7 (Nat.le_refl _) (fun r e => by cases e); have hk7 : KP W6.heap.size (· = R) W6 W7 := hkf.mono (Nat.le_refl _) (fun _ _ h => h.elim); have HR7 := Lib.hid (HR6.out.kp hkf HR6.out.lt (fun _ _ => id)); have HK7 := Lib.hid (step_kp HK6.out hk7); have HX7 := Lib.hid (step_box HX6.out hk7 (by omega)); have HB7 := Lib.hid (step_box HB6.out hk7 (by omega)); have hz7 := hk7.size; clear hown7 hgrow7 hat7 hkf hk7; have t37 : W7.cell? ⟨B3, 3, none⟩ = some (.slice none 0 0) := HB7.out.cell 3; have t3z7 : W7.frozen? ⟨B3, 3, none⟩ = false := HB7.out.frozen 3))
  all_goals
    clear t37 t3z7 t36 t3z6 t35 t3z5 t3 t3z
    have NB8 := Lib.hid (NB7.out.kp (KP.set1 W7 B3 3 (.slice a7 m c7)) (Nat.le_refl _) (fun b hb hb2 q => by have h1 : b = B3 := q; have h2 : W6.heap.size ≤ b := hb; omega))
    have HR8 := Lib.hid (rd_setB (B := B3) (j := 3) HR7.out (by omega) (.slice a7 m c7))
    have HK8 := Lib.hid (kp_set (B := B3) (j := 3) HK7.out (by omega) (.slice a7 m c7))
    have HX8 := Lib.hid (step_box HX7.out (KP.set1 W7 B3 3 (.slice a7 m c7)) (by omega))
    have HB8 := Lib.hid (show BoxN _ _ #[.int .u64 (x1 : Int), .int .u64 (x2 : Int), .int .i64 (x3 : Int), .slice a7 m c7] from HB7.out.set 3 (.slice a7 m c7))
    have hz8 : B3 + 1 ≤ W6.heap.size := by omega
    obtain ⟨W8, hW8⟩ : ∃ W', W7.setCell ⟨B3, 3, none⟩ (.slice a7 m c7) = W' := ⟨_, rfl⟩
    rw [hW8] at NB8 HR8 HK8 HX8 HB8 ⊢
    clear hW8
    have y0 : W8.cell? ⟨B3, 0, none⟩ = some (.int .u64 (x1 : Int)) := HB8.out.cell 0
    have y1 : W8.cell? ⟨B3, 1, none⟩ = some (.int .u64 (x2 : Int)) := HB8.out.cell 1
    have y2 : W8.cell? ⟨B3, 2, none⟩ = some (.int .i64 (x3 : Int)) := HB8.out.cell 2
    have y3 : W8.cell? ⟨B3, 3, none⟩ = some (.slice a7 m c7) := HB8.out.cell 3
    have c0 : W8.cell? ⟨W.heap.size, 0, none⟩ = some (.int .u64 0) := HX8.out.cell 0
    have z0 : W8.frozen? ⟨W.heap.size, 0, none⟩ = false := HX8.out.frozen 0
    have c1 : W8.cell? ⟨W.heap.size, 1, none⟩ = some (.int .u64 0) := HX8.out.cell 1
    have z1 : W8.frozen? ⟨W.heap.size, 1, none⟩ = false := HX8.out.frozen 1
    have c2 : W8.cell? ⟨W.heap.size, 2, none⟩ = some (.int .i64 0) := HX8.out.cell 2
    have z2 : W8.frozen? ⟨W.heap.size, 2, none⟩ = false := HX8.out.frozen 2
    have c3 : W8.cell? ⟨W.heap.size, 3, none⟩ = some (.slice none 0 0) := HX8.out.cell 3
    have z3 : W8.frozen? ⟨W.heap.size, 3, none⟩ = false := HX8.out.frozen 3
    go_wp2_with fail
    have hbx : BoxN ((((W8.setCell ⟨W.heap.size, 0, none⟩ (.int .u64 (x1 : Int))).setCell ⟨W.heap.size, 1, none⟩ (.int .u64 (x2 : Int))).setCell ⟨W.heap.size, 2, none⟩ (.int .i64 (x3 : Int))).setCell ⟨W.heap.size, 3, none⟩ (.slice a7 m c7)) W.heap.size #[.int .u64 (x1 : Int), .int .u64 (x2 : Int), .int .i64 (x3 : Int), .slice a7 m c7] := ((((HX8.out.set 0 (.int .u64 (x1 : Int))).set 1 (.int .u64 (x2 : Int))).set 2 (.int .i64 (x3 : Int))).set 3 (.slice a7 m c7))
    have HRF := Lib.hid (show RdAt base R ((((W8.setCell ⟨W.heap.size, 0, none⟩ (.int .u64 (x1 : Int))).setCell ⟨W.heap.size, 1, none⟩ (.int .u64 (x2 : Int))).setCell ⟨W.heap.size, 2, none⟩ (.int .i64 (x3 : Int))).setCell ⟨W.heap.size, 3, none⟩ (.slice a7 m c7)) s5 from (rd_setB (B := W.heap.size) (j := 3) (rd_setB (B := W.heap.size) (j := 2) (rd_setB (B := W.heap.size) (j := 1) (rd_setB (B := W.heap.size) (j := 0) HR8.out hlt (.int .u64 (x1 : Int))) hlt (.int .u64 (x2 : Int))) hlt (.int .i64 (x3 : Int))) hlt (.slice a7 m c7)))
    have HKF := Lib.hid (show KP W.heap.size (· = R) W ((((W8.setCell ⟨W.heap.size, 0, none⟩ (.int .u64 (x1 : Int))).setCell ⟨W.heap.size, 1, none⟩ (.int .u64 (x2 : Int))).setCell ⟨W.heap.size, 2, none⟩ (.int .i64 (x3 : Int))).setCell ⟨W.heap.size, 3, none⟩ (.slice a7 m c7)) from (kp_set (B := W.heap.size) (j := 3) (kp_set (B := W.heap.size) (j := 2) (kp_set (B := W.heap.size) (j := 1) (kp_set (B := W.heap.size) (j := 0) HK8.out (Nat.le_refl _) (.int .u64 (x1 : Int))) (Nat.le_refl _) (.int .u64 (x2 : Int))) (Nat.le_refl _) (.int .i64 (x3 : Int))) (Nat.le_refl _) (.slice a7 m c7)))
    have HNF := Lib.hid (show NewB (fun b => W6.heap.size ≤ b) ((((W8.setCell ⟨W.heap.size, 0, none⟩ (.int .u64 (x1 : Int))).setCell ⟨W.heap.size, 1, none⟩ (.int .u64 (x2 : Int))).setCell ⟨W.heap.size, 2, none⟩ (.int .i64 (x3 : Int))).setCell ⟨W.heap.size, 3, none⟩ (.slice a7 m c7)) a7 x5 from (NewB.kp (NewB.kp (NewB.kp (NewB.kp NB8.out (KP.set1 W8 W.heap.size 0 (.int .u64 (x1 : Int))) (Nat.le_refl _) (fun b hb hb2 q => by have h1 : b = W.heap.size := q; have h2 : W6.heap.size ≤ b := hb; omega)) (KP.set1 (W8.setCell ⟨W.heap.size, 0, none⟩ (.int .u64 (x1 : Int))) W.heap.size 1 (.int .u64 (x2 : Int))) (Nat.le_refl _) (fun b hb hb2 q => by have h1 : b = W.heap.size := q; have h2 : W6.heap.size ≤ b := hb; omega)) (KP.set1 ((W8.setCell ⟨W.heap.size, 0, none⟩ (.int .u64 (x1 : Int))).setCell ⟨W.heap.size, 1, none⟩ (.int .u64 (x2 : Int))) W.heap.size 2 (.int .i64 (x3 : Int))) (Nat.le_refl _) (fun b hb hb2 q => by have h1 : b = W.heap.size := q; have h2 : W6.heap.size ≤ b := hb; omega)) (KP.set1 (((W8.setCell ⟨W.heap.size, 0, none⟩ (.int .u64 (x1 : Int))).setCell ⟨W.heap.size, 1, none⟩ (.int .u64 (x2 : Int))).setCell ⟨W.heap.size, 2, none⟩ (.int .i64 (x3 : Int))) W.heap.size 3 (.slice a7 m c7)) (Nat.le_refl _) (fun b hb hb2 q => by have h1 : b = W.heap.size := q; have h2 : W6.heap.size ≤ b := hb; omega)))
    obtain ⟨WF, hWF⟩ : ∃ W', ((((W8.setCell ⟨W.heap.size, 0, none⟩ (.int .u64 (x1 : Int))).setCell ⟨W.heap.size, 1, none⟩ (.int .u64 (x2 : Int))).setCell ⟨W.heap.size, 2, none⟩ (.int .i64 (x3 : Int))).setCell ⟨W.heap.size, 3, none⟩ (.slice a7 m c7)) = W' := ⟨_, rfl⟩
    rw [hWF] at hbx HRF HKF HNF ⊢
    clear hWF
    refine bodyPost_ret (v := .agg #[.int .u64 (x1 : Int), .int .u64 (x2 : Int), .int .i64 (x3 : Int), .slice a7 m c7]) ?_ rfl ⟨⟨⟨(x1 : Int), (x2 : Int), (x3 : Int), x5, a7, c7⟩, by unfold segC; rw [HM.out], rfl, HNF.out.mono (fun b _ q => by omega)⟩, HRF.out, HKF.out⟩
    have q0 : WF.cell? ⟨W.heap.size, 0, none⟩ = some (.int .u64 (x1 : Int)) := hbx.cell 0
    have q1 : WF.cell? ⟨W.heap.size, 1, none⟩ = some (.int .u64 (x2 : Int)) := hbx.cell 1
    have q2 : WF.cell? ⟨W.heap.size, 2, none⟩ = some (.int .i64 (x3 : Int)) := hbx.cell 2
    have q3 : WF.cell? ⟨W.heap.size, 3, none⟩ = some (.slice a7 m c7) := hbx.cell 3
    simp [results, Try.results41, go_sem, q0, q1, q2, q3]
end Go.Proofs.Ytknldomgmogccaa
