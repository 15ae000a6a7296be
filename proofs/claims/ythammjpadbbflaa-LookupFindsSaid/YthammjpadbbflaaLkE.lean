/- prepare: contract. -/
import Derived.Test.YthammjpadbbflaaLkD
namespace Go.Proofs.Ythammjpadbbflaa
set_option linter.unusedVariables false
set_option linter.unusedSimpArgs false
open Go.Joins Go.ChangeShapes Go.WideShapes Go.ChangeAt Go.RowKit Go.Deep Go.Shelf
attribute [local go_sem] Oper.semAt_some

/-- between two rounds of prepare -/
def PrepI (W0 : World) (B : Nat) (obj : Int) (sa : Option Addr) (n sc : Nat) (l : List Sym) (pre : List Unit) (W : World) : Prop :=
  ∃ tb, BoxN W B #[.int .i64 obj, .slice sa n sc, .int .u32 0, .int .i32 1, .int .u32 0, tb] ∧ (if pre = [] then tb = .slice none 0 0 else TabY (fun b => W0.heap.size ≤ b) W l tb) ∧ KP W0.heap.size (· = B) W0 W
theorem prepI_own (W0 : World) (B : Nat) (obj : Int) (sa : Option Addr) (n sc : Nat) (l : List Sym) : OwnFrom W0.heap.size (PrepI W0 B obj sa n sc l) := by
  rintro pre A W row ⟨tb, h1, h2, h3⟩ hg hr
  have hr' : ∀ r, row = some r → ∃ o : Go.Obj, A.heap[r]? = some o ∧ o.isCells = false := fun r e => (hr r e).2
  refine ⟨tb, h1.kept hg hr', ?_, h3.grown hg h3.size (fun r e => Or.inl (hr r e).1)⟩
  by_cases hp : pre = []
  · rw [if_pos hp] at h2 ⊢; exact h2
  · rw [if_neg hp] at h2 ⊢; exact h2.kept hg hr'
theorem neverU_own (B : Nat) (c : Code) : OwnFrom B (fun (_ : List Unit) (_ : World) => False) := fun _ _ _ _ h _ _ => h
theorem kp_of_below {n m : Nat} {S : Nat → Prop} {A B : World} (hb : Below m A B) (hn : n ≤ m) : KP n S A B := (KP.refl n S A).below hb hn
theorem leaves_plain {R : Ending → World → Prop} {fn : Func} {tmps : Array Value} {w : World} {v : Value} (h1 : (results fn tmps).run Try.prog w = .ok v w) (h2 : R (.returned v) w) : LeavesInM Fence.wide 9 Try.prog fn tmps R [] .returning w := ⟨v, h1, h2⟩
/-- what prepare leaves -/
def PrepPost (w : World) (B : Nat) (obj : Int) (sa : Option Addr) (sc : Nat) (l : List Sym) (w' : World) : Prop :=
  ∃ tb, BoxN w' B #[.int .i64 obj, .slice sa l.length sc, .int .u32 0, .int .i32 1, .int .u32 0, tb] ∧ TabAt (fun b => w.heap.size ≤ b) w' l tb ∧ KP w.heap.size (· = B) w w'
theorem fin_body {w W0 W W1 w9 : World} {l : List Sym} {obj : Int} {sa : Option Addr} {sc B Bk C m T c : Nat} {X Y : Value} (hlm : l.length = m) (hBw : B < w.heap.size) (hz0 : W0.heap.size = w.heap.size + 3) (hWz : W0.heap.size ≤ W.heap.size) (h3 : KP W0.heap.size (· = B) W0 W) (hKW : KP W.heap.size (· = B) W W1)
    (hBW : BoxN W1 B #[.int .i64 obj, .slice sa m sc, .int .u32 0, .int .i32 1, .int .u32 0, .slice none 0 0]) (r1 : Rd W1 (some ⟨Bk, 0, none⟩) 32 (i64s (bucketsZ l 32 32))) (r2 : Rd W1 (some ⟨C, 0, none⟩) m (i64s (chainZ l 32 m))) (l12 : W.heap.size ≤ Bk ∧ W.heap.size ≤ C)
    (hX : .slice (some ⟨Bk, 0, none⟩) 32 32 = X) (hY : .slice (some ⟨C, 0, none⟩) m m = Y) (hT : ((W1.alloc (.cells #[X, Y] 100)).drew).heap.size ≤ T) (hT0 : w9.cell? ⟨T, 0, none⟩ = some X) (hT1 : w9.cell? ⟨T, 1, none⟩ = some Y) (hG : ((W1.alloc (.cells #[X, Y] 100)).drew).grownBy w9 none) :
    KeepsFrom W0.heap.size W (w9.setCell ⟨B, 5, none⟩ (.slice (some ⟨T, 0, none⟩) 1 c)) ∧ KP W0.heap.size (· = B) W (w9.setCell ⟨B, 5, none⟩ (.slice (some ⟨T, 0, none⟩) 1 c)) ∧ PrepI W0 B obj sa m sc l ([] ++ [()]) (w9.setCell ⟨B, 5, none⟩ (.slice (some ⟨T, 0, none⟩) 1 c)) := by
  subst hlm
  have kw : KP W1.heap.size (· = B) W1 (w9.setCell ⟨B, 5, none⟩ (.slice (some ⟨T, 0, none⟩) 1 c)) := ((((KP.refl W1.heap.size (· = B) W1).grown (World.grownBy_alloc W1 (.cells #[X, Y] 100) none) (Nat.le_refl _) (fun r e => by cases e)).drew).grown hG (by simp) (fun r e => by cases e)).set ⟨B, 5, none⟩ (Or.inr (show B = B from rfl)) _
  have kpf : KP W.heap.size (· = B) W (w9.setCell ⟨B, 5, none⟩ (.slice (some ⟨T, 0, none⟩) 1 c)) := hKW.trans (kw.mono hKW.size (fun b _ e => e))
  have kp0 := kpf.mono hWz (T := (· = B)) (fun b _ e => e)
  have hT' : W1.heap.size + 1 ≤ T := by simpa using hT
  have hs := hKW.size
  have bx := ((BoxN.grown (BoxN.drew (hBW.grown (World.grownBy_alloc W1 (.cells #[X, Y] 100) none) (by simp))) hG (by simp))).set 5 (.slice (some ⟨T, 0, none⟩) 1 c)
  refine ⟨⟨kpf.size, fun j o hj ho hc => ?_⟩, kp0, .slice (some ⟨T, 0, none⟩) 1 c, bx, ?_, h3.trans kp0⟩
  · exact (kpf.block j (Array.getElem?_eq_some_iff.1 ho).1 (fun e => by have : j = B := e; omega)).trans ho
  · rw [if_neg (by simp)]
    refine ⟨T, c, Bk, C, rfl, by show W0.heap.size ≤ T; omega, by show W0.heap.size ≤ Bk; omega, by show W0.heap.size ≤ C; omega, (World.cell?_setCell_other _ _ _ _ (fun e => ?_)).trans (hX ▸ hT0), (World.cell?_setCell_other _ _ _ _ (fun e => ?_)).trans (hY ▸ hT1), kw.rd r1 fun b off h0 e => ?_, kw.rd r2 fun b off h0 e => ?_⟩
    · have := congrArg Addr.block e; simp at this; omega
    · have := congrArg Addr.block e; simp at this; omega
    · obtain ⟨b', off', e', hl, -⟩ := r1.2 h0
      cases e; cases e'
      exact ⟨hl, fun q => by have : Bk = B := q; omega⟩
    · obtain ⟨b', off', e', hl, -⟩ := r2.2 h0
      cases e; cases e'
      exact ⟨hl, fun q => by have : C = B := q; omega⟩
set_option maxRecDepth 100000 in
set_option maxHeartbeats 4000000 in
theorem prep_any (w : World) (B : Nat) (obj : Int) (sa : Option Addr) (sc : Nat) (l : List Sym) (hbx : BoxN w B #[.int .i64 obj, .slice sa l.length sc, .int .u32 0, .int .i32 1, .int .u32 0, .slice none 0 0])
    (hl : RdS w sa l) (hm : l.length ≤ 40) (hc : l.length ≤ sc) (hnm : ∀ s ∈ l, s.name.length < 9223372036854775808) (hB : ∀ b off, 0 < l.length → sa = some ⟨b, off, none⟩ → b ≠ B) :
    Calls Try.prog 48 #[.pointer (some ⟨B, 0, none⟩)] w fun e w' => e = .returned (.tuple #[]) ∧ PrepPost w B obj sa sc l w' := by
  have HM := Lib.hid (fun c W (hW : RdS W sa l) => make_any sa l c 32 (by decide) (by decide) hm W hW hnm)
  have HRS := Lib.hid hl
  have HBX := Lib.hid hbx
  have HBB := Lib.hid hB
  obtain ⟨m, hlm⟩ : ∃ m, l.length = m := ⟨_, rfl⟩
  have HLM := Lib.hid hlm
  unfold PrepPost
  rw [hlm] at hm hc HM HBX HBB ⊢
  have ha : 0 < m → ∃ b off, sa = some ⟨b, off, none⟩ := fun h0 => by
    obtain ⟨b, off, e, -⟩ := hl (by omega)
    exact ⟨b, off, e⟩
  have HA := Lib.hid ha
  have hBw := hbx.lt
  have q1 := HBX.out.cell 1
  clear hl hnm hB hlm hbx ha
  refine (callsIn_wide (n := 9)).1 ?_
  refine callsIn_of_wp_marks Try.func48 rfl trivial ?_ rfl
  simp only [Try.ntmps48, List.size_toArray, List.length_cons, List.length_nil, Nat.reduceAdd, Nat.reduceSub, Array.replicate_succ, Array.replicate_zero, List.push_toArray, List.append_toArray, List.nil_append, List.cons_append]
  refine wpIn_wide.2 ?_
  have q1 : w.cell? ⟨B, 1, none⟩ = some (.slice sa m sc) := q1
  go_wp2_with fail
  refine (chunk_any _ _ _ _).mono ?_; rintro e w' ⟨rfl, rfl⟩
  go_wp2_with fail
  have hb0 : Below w.heap.size w (((w.alloc (.cells #[.pointer (some ⟨B, 0, none⟩)] 66)).alloc (.cells #[.slice sa m sc] 34)).alloc (.cells #[.int .i64 40] 3)) := bAlloc (bAlloc (bAlloc (Below.refl _ _) _) _) _
  have z0 : ((((w.alloc (.cells #[.pointer (some ⟨B, 0, none⟩)] 66)).alloc (.cells #[.slice sa m sc] 34)).alloc (.cells #[.int .i64 40] 3))).heap.size = w.heap.size + 3 := by rw [size_alloc, size_alloc, size_alloc]
  have b0 := (BoxN.new w #[.pointer (some ⟨B, 0, none⟩)] 66).below (bAlloc (bAlloc (Below.refl (w.alloc (.cells #[.pointer (some ⟨B, 0, none⟩)] 66)).heap.size _) (.cells #[.slice sa m sc] 34)) (.cells #[.int .i64 40] 3)) (by simp)
  have b1 := (BoxN.new (w.alloc (.cells #[.pointer (some ⟨B, 0, none⟩)] 66)) #[.slice sa m sc] 34).below (bAlloc (Below.refl _ _) (.cells #[.int .i64 40] 3)) (by simp)
  have b2 := BoxN.new ((w.alloc (.cells #[.pointer (some ⟨B, 0, none⟩)] 66)).alloc (.cells #[.slice sa m sc] 34)) #[.int .i64 40] 3
  rw [size_alloc] at b1
  rw [size_alloc, size_alloc] at b2
  have HB0 := Lib.hid hb0
  have B0 := Lib.hid b0
  have B1 := Lib.hid b1
  have B2 := Lib.hid b2
  have Z0 := Lib.hid z0
  clear hb0 z0 b0 b1 b2
  generalize ((w.alloc (.cells #[.pointer (some ⟨B, 0, none⟩)] 66)).alloc (.cells #[.slice sa m sc] 34)).alloc (.cells #[.int .i64 40] 3) = W0 at *
  have hz0 := Z0.out
  have HCH := Lib.hid (chunk_stops Fence.wide 8 trivial rfl (by decide) (w.heap.size + 1) W0.heap.size (· = B) sa m sc hm hc (by omega) (by show ¬ (w.heap.size + 1 = B); omega) (by show ¬ (w.heap.size + 1 + 1 = B); omega) HA.out W0 (B1.out.cell 0) (B2.out.cell 0))
  refine (wpIn_wide (n := 9)).1 ?_
  refine wpIn_rangeFunc_ownG rfl (by decide) (gf := 66) (lb := #[.pointer (some ⟨w.heap.size + 1, 0, none⟩), .pointer (some ⟨w.heap.size + 1 + 1, 0, none⟩)]) rfl trivial (enters_of Try.func66 (by kernel_rfl) rfl) HCH.out (fun h k => h.trans k) (fun W lo o o' hl _ _ _ => KP.putObj W lo o' hl) (Below.refl _ _) (fun _ => rfl)
    (PrepI W0 B obj sa m sc l) (fun _ _ _ => False) (prepI_own _ _ _ _ _ _ _) (fun c => neverU_own _ c)
    ⟨.slice none 0 0, HBX.out.below HB0.out hBw, by rw [if_pos rfl], KP.refl _ _ _⟩
    (fun x => { tmps := #[.pointer (some ⟨B, 0, none⟩), .pointer (some ⟨w.heap.size, 0, none⟩), .slice sa m m, undef, undef, .pointer (some ⟨B, 0, none⟩), .pointer (some ⟨B, 0, none⟩), .pointer (some ⟨B, 1, none⟩), .slice sa m sc, .func (.func 66) #[] #[.pointer (some ⟨w.heap.size + 1, 0, none⟩), .pointer (some ⟨w.heap.size + 1 + 1, 0, none⟩)], .slice sa m m, undef, undef, undef, undef, undef, undef, undef, undef, undef, undef, undef, undef, undef, undef, undef], defers := [] }) ?assign ?body ?done ?stop
  case assign =>
    intro lp x W K hK
    gi_wp2
    exact hK
  case body =>
    rintro lp pre x W ⟨tb, h1, h2, h3⟩ hpre
    obtain rfl : pre = [] := List.eq_nil_of_length_eq_zero (by have := pieces_le m; omega)
    rw [if_pos rfl] at h2
    subst h2
    have HH1 := Lib.hid h1
    have HH3 := Lib.hid h3
    have hWz : W0.heap.size ≤ W.heap.size := h3.size
    have HMK := Lib.hid (HM.out m W (h3.rdS (HRS.out.below HB0.out) (fun b off h0 e => ⟨by
      obtain ⟨b', off', e', hl, -⟩ := HRS.out h0
      rw [e'] at e; cases e
      omega, fun q => HBB.out b off (by rw [← HLM.out]; exact h0) e q⟩)))
    clear h1 h3 hpre
    gi_wp2_with (refine ⟨trivial, ?_⟩; gi_at_call 65; refine (CallsIn.inRound lp (callsIn_wide.2 HMK.out)).mono ?_; rintro e w' ⟨Bk, C, rfl, r1, r2, r3, r4, ⟨l1, l2⟩, hb⟩; rw [HLM.out])
    rw [HLM.out] at r2
    obtain ⟨X, hX⟩ : ∃ X : Value, .slice (some ⟨Bk, 0, none⟩) 32 32 = X := ⟨_, rfl⟩
    obtain ⟨Y, hY⟩ : ∃ Y : Value, .slice (some ⟨C, 0, none⟩) m m = Y := ⟨_, rfl⟩
    have hX1 : X.oneCell' = true := by rw [← hX]; rfl
    have hY1 : Y.oneCell' = true := by rw [← hY]; rfl
    rw [hX, hY]
    have HX := Lib.hid hX
    have HY := Lib.hid hY
    have hT0b := BoxN.new w' #[X, Y] 100
    have hKW : KP W.heap.size (· = B) W (w'.alloc (.cells #[X, Y] 100)) := kp_of_below (bAlloc hb _) (Nat.le_refl _)
    have HKW := Lib.hid hKW
    have r1' := r1.alloc (.cells #[X, Y] 100)
    have r2' := r2.alloc (.cells #[X, Y] 100)
    have hbs := hb.size
    have HBW := Lib.hid (show BoxN (w'.alloc (.cells #[X, Y] 100)) B #[.int .i64 obj, .slice sa m sc, .int .u32 0, .int .i32 1, .int .u32 0, .slice none 0 0] from HH1.out.below (bAlloc hb _) (by have := HH3.out.size; omega))
    have HB1 := Lib.hid (show BoxN (w'.alloc (.cells #[X, Y] 100)) w.heap.size #[.pointer (some ⟨B, 0, none⟩)] from (B0.out.kp HH3.out (by omega) (by show ¬ (w.heap.size = B); omega)).below (bAlloc hb _) (by omega))
    have HT0 := Lib.hid hT0b
    have R1 := Lib.hid r1'
    have R2 := Lib.hid r2'
    have L12 := Lib.hid (And.intro l1 l2)
    have hWx : (w'.alloc (.cells #[X, Y] 100)).heap.size = w'.heap.size + 1 := size_alloc _ _
    clear hX hY r1 r2 r3 r4 r1' r2' hb hT0b hKW l1 l2
    obtain ⟨T0, hTe⟩ : ∃ T0, w'.heap.size = T0 := ⟨_, rfl⟩
    rw [hTe] at HT0 hWx hbs ⊢
    generalize w'.alloc (.cells #[X, Y] 100) = W1 at *
    clear hTe
    have HFIN := Lib.hid (fun T cT w9 (hT : ((W1.alloc (.cells #[X, Y] 100)).drew).heap.size ≤ T) (hT0 : w9.cell? ⟨T, 0, none⟩ = some X) (hT1 : w9.cell? ⟨T, 1, none⟩ = some Y) (hG : ((W1.alloc (.cells #[X, Y] 100)).drew).grownBy w9 none) =>
      fin_body (w := w) (W0 := W0) (W := W) (W1 := W1) (l := l) (obj := obj) (sa := sa) (sc := sc) (B := B) (Bk := Bk) (C := C) (m := m) (T := T) (c := cT) (w9 := w9) (X := X) (Y := Y) HLM.out hBw hz0 hWz HH3.out HKW.out HBW.out R1.out R2.out L12.out HX.out HY.out hT hT0 hT1 hG)
    have HS0 := Lib.hid (show W1.drew.cell? ⟨w.heap.size, 0, none⟩ = some (.pointer (some ⟨B, 0, none⟩)) ∧ W1.drew.cell? ⟨T0, 0, none⟩ = some X ∧ W1.drew.cell? ⟨T0, 1, none⟩ = some Y from ⟨HB1.out.cell 0, HT0.out.cell 0, HT0.out.cell 1⟩)
    have HS6 := Lib.hid (show ((W1.alloc (.cells #[X, Y] 100)).drew).cell? ⟨w.heap.size, 0, none⟩ = some (.pointer (some ⟨B, 0, none⟩)) ∧ ((W1.alloc (.cells #[X, Y] 100)).drew).cell? ⟨T0, 0, none⟩ = some X ∧ ((W1.alloc (.cells #[X, Y] 100)).drew).cell? ⟨T0, 1, none⟩ = some Y from ⟨cell_drew (cell_alloc (show W1.cell? _ = _ from HS0.out.1) _), cell_drew (cell_alloc (show W1.cell? _ = _ from HS0.out.2.1) _), cell_drew (cell_alloc (show W1.cell? _ = _ from HS0.out.2.2) _)⟩)
    have HS9 := Lib.hid (fun w9 (hG : ((W1.alloc (.cells #[X, Y] 100)).drew).grownBy w9 none) => show w9.cell? ⟨w.heap.size, 0, none⟩ = some (.pointer (some ⟨B, 0, none⟩)) ∧ w9.cell? ⟨T0, 0, none⟩ = some X ∧ w9.cell? ⟨T0, 1, none⟩ = some Y from ⟨cell_kept HS6.out.1 hG (fun r e => by cases e), cell_kept HS6.out.2.1 hG (fun r e => by cases e), cell_kept HS6.out.2.2 hG (fun r e => by cases e)⟩)
    have HF9 := Lib.hid (fun w9 (hG : ((W1.alloc (.cells #[X, Y] 100)).drew).grownBy w9 none) => show w9.cell? ⟨B, 5, none⟩ = some (.slice none 0 0) ∧ w9.frozen? ⟨B, 5, none⟩ = false from ⟨cell_kept (cell_drew (cell_alloc (HBW.out.cell 5) _)) hG (fun r e => by cases e), ((BoxN.grown (BoxN.drew (HBW.out.grown (World.grownBy_alloc W1 (.cells #[X, Y] 100) none) (by simp))) hG (by simp)).frozen 5)⟩)
    have HS10 := Lib.hid (fun w9 v (hG : ((W1.alloc (.cells #[X, Y] 100)).drew).grownBy w9 none) => show (w9.setCell ⟨B, 5, none⟩ v).cell? ⟨w.heap.size, 0, none⟩ = some (.pointer (some ⟨B, 0, none⟩)) ∧ (w9.setCell ⟨B, 5, none⟩ v).cell? ⟨T0, 0, none⟩ = some X ∧ (w9.setCell ⟨B, 5, none⟩ v).cell? ⟨T0, 1, none⟩ = some Y from ⟨(World.cell?_setCell_other _ _ _ _ (by first | (simp; done) | (simp; omega))).trans (HS9.out _ hG).1, (World.cell?_setCell_other _ _ _ _ (by first | (simp; done) | (simp; omega))).trans (HS9.out _ hG).2.1, (World.cell?_setCell_other _ _ _ _ (by first | (simp; done) | (simp; omega))).trans (HS9.out _ hG).2.2⟩)
    have HU := Lib.hid (cell_drew (cell_new W1 #[X, Y] 100 (T0 + 1) 0 X hWx.symm rfl))
    have HV := Lib.hid (cell_drew (cell_new W1 #[X, Y] 100 (T0 + 1) 1 Y hWx.symm rfl))
    have hn0 : W1.drew.cell? ⟨B, 5, none⟩ = some (.slice none 0 0) := HBW.out.cell 5
    have HN6 := Lib.hid (show (W1.alloc (.cells #[X, Y] 100)).cell? ⟨B, 5, none⟩ = some (.slice none 0 0) from cell_alloc (HBW.out.cell 5) _)
    gi_wp2
    refine region_round (S := fun W => W.cell? ⟨w.heap.size, 0, none⟩ = some (.pointer (some ⟨B, 0, none⟩)) ∧ W.cell? ⟨T0, 0, none⟩ = some X ∧ W.cell? ⟨T0, 1, none⟩ = some Y) mixed (by kernel_rfl) HS0.out (fun hHeld => ?_)
    refine wpAnyH_take (i := 0) (oi := { dst := some 16, op := Op.load 66 (Operand.tmp 1), type := 66, pos := "place.go:69", after := #[], guard := none }) (v := .pointer (some ⟨B, 0, none⟩)) rfl (by kernel_rfl) (by kernel_rfl) (by kernel_rfl) (fun _ _ _ h => h) (Or.inl ⟨by rfl, ?_⟩) (by assumption) ?_
    · intro W hSw; (try dsimp only at hSw); go_simp
    simp only [Act.put, List.setIfInBounds_toArray, List.set_cons_zero, List.set_cons_succ]
    refine wpAnyH_take (i := 1) (oi := { dst := some 17, op := Op.load 66 (Operand.tmp 1), type := 66, pos := "place.go:69", after := #[], guard := none }) (v := .pointer (some ⟨B, 0, none⟩)) rfl (by kernel_rfl) (by kernel_rfl) (by kernel_rfl) (fun _ _ _ h => h) (Or.inl ⟨by rfl, ?_⟩) (by assumption) ?_
    · intro W hSw; (try dsimp only at hSw); go_simp
    simp only [Act.put, List.setIfInBounds_toArray, List.set_cons_zero, List.set_cons_succ]
    refine wpAnyH_take (i := 2) (oi := { dst := some 18, op := Op.nilCheck (Operand.tmp 17), type := 0, pos := "place.go:69", after := #[{ on := 1, ground := Ground.data }], guard := none }) (v := .pointer (some ⟨B, 0, none⟩)) rfl (by kernel_rfl) (by kernel_rfl) (by kernel_rfl) (fun _ _ _ h => h) (Or.inl ⟨by rfl, ?_⟩) (by assumption) ?_
    · intro W hSw; (try dsimp only at hSw); go_simp
    simp only [Act.put, List.setIfInBounds_toArray, List.set_cons_zero, List.set_cons_succ]
    refine wpAnyH_take (i := 3) (oi := { dst := some 19, op := Op.fieldAddr 81 (Operand.tmp 18) 3, type := 0, pos := "place.go:69", after := #[{ on := 2, ground := Ground.data }], guard := none }) (v := .pointer (some ⟨B, 5, none⟩)) rfl (by kernel_rfl) (by kernel_rfl) (by kernel_rfl) (fun _ _ _ h => h) (Or.inl ⟨by rfl, ?_⟩) (by assumption) ?_
    · intro W hSw; (try dsimp only at hSw); go_simp
    simp only [Act.put, List.setIfInBounds_toArray, List.set_cons_zero, List.set_cons_succ]
    refine wpAnyH_take (i := 5) (oi := { dst := some 21, op := Op.load 100 (Operand.tmp 3), type := 100, pos := "place.go:69", after := #[], guard := none }) (v := .agg #[X, Y]) rfl (by kernel_rfl) (by kernel_rfl) (by kernel_rfl) (fun _ _ _ h => h) (Or.inl ⟨by rfl, ?_⟩) (by assumption) ?_
    · intro W hSw; (try dsimp only at hSw); go_simp
    simp only [Act.put, List.setIfInBounds_toArray, List.set_cons_zero, List.set_cons_succ]
    refine wpAnyH_ready (rs := [4, 6]) (by kernel_rfl) (by simp) ?_
    refine AllReadyH.cons rfl (fun K hK => ?_) (AllReadyH.cons rfl (fun K hK => ?_) AllReadyH.nil)
    · go_simp
      refine hK.out _ _ ?_ (fun hHeld => ?_)
      · exact HS0.out
      clear hK K
      try simp only [Act.put, List.setIfInBounds_toArray, List.set_cons_zero, List.set_cons_succ]
      refine wpAnyH_ready (rs := [6]) (by kernel_rfl) (by simp) ?_
      refine AllReadyH.cons rfl (fun K hK => ?_) ?_
      rotate_left
      · exact AllReadyH.nil
      go_simp
      refine hK.out _ _ ?_ (fun hHeld => ?_)
      · exact HS6.out
      clear hK K
      try simp only [Act.put, List.setIfInBounds_toArray, List.set_cons_zero, List.set_cons_succ]
      refine wpAnyH_ready (rs := [7]) (by kernel_rfl) (by simp) ?_
      refine AllReadyH.cons rfl (fun K hK => ?_) ?_
      rotate_left
      · exact AllReadyH.nil
      refine step_tab _ rfl _ _ rfl rfl (T0 + 1) rfl X Y HU.out HV.out hX1 hY1 ?_
      intro T cT w9 hT hT0 hT1 hG
      refine hK.out _ _ ?_ (fun hHeld => ?_)
      · exact HS9.out _ hG
      clear hK K
      try simp only [Act.put, List.setIfInBounds_toArray, List.set_cons_zero, List.set_cons_succ]
      refine wpAnyH_take (i := 8) (oi := { dst := some 24, op := Op.nilCheck (Operand.tmp 16), type := 0, pos := "place.go:69", after := #[{ on := 0, ground := Ground.data }, { on := 0, ground := Ground.phase }, { on := 1, ground := Ground.phase }, { on := 2, ground := Ground.phase }, { on := 3, ground := Ground.phase }, { on := 4, ground := Ground.phase }, { on := 5, ground := Ground.phase }, { on := 6, ground := Ground.phase }, { on := 7, ground := Ground.phase }], guard := none }) (v := .pointer (some ⟨B, 0, none⟩)) rfl (by kernel_rfl) (by kernel_rfl) (by kernel_rfl) (fun _ _ _ h => h) (Or.inl ⟨by rfl, ?_⟩) (by assumption) ?_
      · intro W hSw; (try dsimp only at hSw); go_simp
      simp only [Act.put, List.setIfInBounds_toArray, List.set_cons_zero, List.set_cons_succ]
      refine wpAnyH_take (i := 9) (oi := { dst := some 25, op := Op.fieldAddr 81 (Operand.tmp 24) 3, type := 0, pos := "place.go:69", after := #[{ on := 8, ground := Ground.data }, { on := 0, ground := Ground.phase }, { on := 1, ground := Ground.phase }, { on := 2, ground := Ground.phase }, { on := 3, ground := Ground.phase }, { on := 4, ground := Ground.phase }, { on := 5, ground := Ground.phase }, { on := 6, ground := Ground.phase }, { on := 7, ground := Ground.phase }], guard := none }) (v := .pointer (some ⟨B, 5, none⟩)) rfl (by kernel_rfl) (by kernel_rfl) (by kernel_rfl) (fun _ _ _ h => h) (Or.inl ⟨by rfl, ?_⟩) (by assumption) ?_
      · intro W hSw; (try dsimp only at hSw); go_simp
      simp only [Act.put, List.setIfInBounds_toArray, List.set_cons_zero, List.set_cons_succ]
      have hf9 := HF9.out _ hG
      refine wpAnyH_ready (rs := [10]) (by kernel_rfl) (by simp) ?_
      refine AllReadyH.cons rfl (fun K hK => ?_) ?_
      rotate_left
      · exact AllReadyH.nil
      go_simp
      refine hK.out _ _ ?_ (fun hHeld => ?_)
      · exact HS10.out _ _ hG
      clear hK K
      try simp only [Act.put, List.setIfInBounds_toArray, List.set_cons_zero, List.set_cons_succ]
      refine wpAnyH_done (by kernel_rfl) ?_ _
      exact HFIN.out T cT w9 hT hT0 hT1 hG
    · go_simp
      refine hK.out _ _ ?_ (fun hHeld => ?_)
      · exact HS6.out
      clear hK K
      try simp only [Act.put, List.setIfInBounds_toArray, List.set_cons_zero, List.set_cons_succ]
      have hn6 := HN6.out
      refine wpAnyH_ready (rs := [4]) (by kernel_rfl) (by simp) ?_
      refine AllReadyH.cons rfl (fun K hK => ?_) ?_
      rotate_left
      · exact AllReadyH.nil
      go_simp
      refine hK.out _ _ ?_ (fun hHeld => ?_)
      · exact HS6.out
      clear hK K
      try simp only [Act.put, List.setIfInBounds_toArray, List.set_cons_zero, List.set_cons_succ]
      refine wpAnyH_ready (rs := [7]) (by kernel_rfl) (by simp) ?_
      refine AllReadyH.cons rfl (fun K hK => ?_) ?_
      rotate_left
      · exact AllReadyH.nil
      refine step_tab _ rfl _ _ rfl rfl (T0 + 1) rfl X Y HU.out HV.out hX1 hY1 ?_
      intro T cT w9 hT hT0 hT1 hG
      refine hK.out _ _ ?_ (fun hHeld => ?_)
      · exact HS9.out _ hG
      clear hK K
      try simp only [Act.put, List.setIfInBounds_toArray, List.set_cons_zero, List.set_cons_succ]
      refine wpAnyH_take (i := 8) (oi := { dst := some 24, op := Op.nilCheck (Operand.tmp 16), type := 0, pos := "place.go:69", after := #[{ on := 0, ground := Ground.data }, { on := 0, ground := Ground.phase }, { on := 1, ground := Ground.phase }, { on := 2, ground := Ground.phase }, { on := 3, ground := Ground.phase }, { on := 4, ground := Ground.phase }, { on := 5, ground := Ground.phase }, { on := 6, ground := Ground.phase }, { on := 7, ground := Ground.phase }], guard := none }) (v := .pointer (some ⟨B, 0, none⟩)) rfl (by kernel_rfl) (by kernel_rfl) (by kernel_rfl) (fun _ _ _ h => h) (Or.inl ⟨by rfl, ?_⟩) (by assumption) ?_
      · intro W hSw; (try dsimp only at hSw); go_simp
      simp only [Act.put, List.setIfInBounds_toArray, List.set_cons_zero, List.set_cons_succ]
      refine wpAnyH_take (i := 9) (oi := { dst := some 25, op := Op.fieldAddr 81 (Operand.tmp 24) 3, type := 0, pos := "place.go:69", after := #[{ on := 8, ground := Ground.data }, { on := 0, ground := Ground.phase }, { on := 1, ground := Ground.phase }, { on := 2, ground := Ground.phase }, { on := 3, ground := Ground.phase }, { on := 4, ground := Ground.phase }, { on := 5, ground := Ground.phase }, { on := 6, ground := Ground.phase }, { on := 7, ground := Ground.phase }], guard := none }) (v := .pointer (some ⟨B, 5, none⟩)) rfl (by kernel_rfl) (by kernel_rfl) (by kernel_rfl) (fun _ _ _ h => h) (Or.inl ⟨by rfl, ?_⟩) (by assumption) ?_
      · intro W hSw; (try dsimp only at hSw); go_simp
      simp only [Act.put, List.setIfInBounds_toArray, List.set_cons_zero, List.set_cons_succ]
      have hf9 := HF9.out _ hG
      refine wpAnyH_ready (rs := [10]) (by kernel_rfl) (by simp) ?_
      refine AllReadyH.cons rfl (fun K hK => ?_) ?_
      rotate_left
      · exact AllReadyH.nil
      go_simp
      refine hK.out _ _ ?_ (fun hHeld => ?_)
      · exact HS10.out _ _ hG
      clear hK K
      try simp only [Act.put, List.setIfInBounds_toArray, List.set_cons_zero, List.set_cons_succ]
      refine wpAnyH_done (by kernel_rfl) ?_ _
      exact HFIN.out T cT w9 hT hT0 hT1 hG
  case done =>
    rintro D ys W hD rfl hI hKD
    go_wp2_with fail
    refine ⟨by simp, .inl ⟨D, _, rfl, run_takeDeferred hKD, ?_⟩⟩
    obtain ⟨tb, h1, h2, h3⟩ := prepI_own W0 B obj sa m sc l _ W (World.putObj W D (.deferred none)) (some D) hI (grownBy_putObj' _ D (.deferred none)) (fun r e => by cases e; exact ⟨hD, _, hKD, rfl⟩)
    refine leaves_plain (v := .tuple #[]) (results_none rfl _ _ _) ⟨rfl, tb, h1, ?_, (kp_of_below HB0.out (Nat.le_refl _)).trans (h3.mono (by omega) (fun b _ e => e))⟩
    unfold TabAt
    unfold pieces at h2
    by_cases hl0 : l = []
    · have hm0 : m = 0 := by rw [← HLM.out, hl0]; rfl
      rw [if_pos hl0]
      rw [if_pos hm0, if_pos rfl] at h2
      exact h2
    · have hm0 : ¬ m = 0 := fun e => hl0 (List.eq_nil_of_length_eq_zero (HLM.out.trans e))
      rw [if_neg hl0]
      rw [if_neg hm0, if_neg (by simp)] at h2
      exact h2.mono (fun b _ h => by show w.heap.size ≤ b; omega) hl0
  case stop =>
    rintro D c pre W _ _ h _
    exact h.elim
end Go.Proofs.Ythammjpadbbflaa
