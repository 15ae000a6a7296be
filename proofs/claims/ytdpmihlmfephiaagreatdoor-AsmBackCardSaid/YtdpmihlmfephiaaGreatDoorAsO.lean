/- Where the labels of a text stand: the program's gather. -/
import Derived.Test.YtdpmihlmfephiaaGreatDoorAsN
namespace Go.Proofs.YtdpmihlmfephiaaGreatDoor
set_option linter.unusedVariables false
set_option linter.unusedSimpArgs false
open Go.Joins Go.ChangeShapes Go.WideShapes Go.ChangeAt Go.RowKit Go.Deep Go.Shelf
attribute [local go_sem] Oper.semAt_some

theorem heap_set {W : World} {B : Nat} {cs : Array Value} {t : TypeId} (h : W.heap[B]? = some (.cells cs t (0, 0))) (j : Nat) (x : Value) : (W.setCell ⟨B, j, none⟩ x).heap[B]? = some (.cells (cs.setIfInBounds j x) t (0, 0)) := by
  obtain ⟨hlt, hk⟩ := Array.getElem?_eq_some_iff.1 h
  show (W.heap.modify B _)[B]? = _
  rw [Array.getElem?_eq_getElem (by rw [Array.size_modify]; exact hlt), Array.getElem_modify_self, hk]
  rfl
theorem KC.set {n : Nat} {S : Nat → Prop} (W : World) (B j : Nat) (u : Value) (hn : n ≤ B) (hS : S B) : KC n S W (W.setCell ⟨B, j, none⟩ u) :=
  ⟨(Below.refl n W).setCell (p := ⟨B, j, none⟩) hn u, fun b c t f h1 _ h3 => (Below.heap_setCell _ _ _ _ (fun e => h3 (by have e' : b = B := e; rw [e']; exact hS))).trans h1⟩
theorem LabAt.isMap {w : World} {b n : Nat} {f : List UInt8 → Option (Nat × Nat)} (h : LabAt w b n f) : ∃ es clock, w.heap[b]? = some (.map es clock) := by
  obtain ⟨D, ⟨es, clock, hb, -⟩, -⟩ := h
  exact ⟨es, clock, hb⟩
theorem KC.grown {n : Nat} {S : Nat → Prop} {W W' : World} {mb : Nat} (hg : W.grownBy W' (some mb)) (hm : ∃ es clock, W.heap[mb]? = some (.map es clock)) (hn : n ≤ mb) (hW : n ≤ W.heap.size) : KC n S W W' :=
  ⟨(Below.refl n W).grown hg hW (fun k e => by cases e; exact hn), fun b c t f h1 _ _ => (hg.block b (Array.getElem?_eq_some_iff.1 h1).1 (fun e => by
    obtain ⟨es, clock, hm⟩ := hm
    cases e
    rw [hm] at h1; cases h1)).trans h1⟩
theorem lookN_no {sd : List UInt8} (i : Nat) (h : labelF sd = none) (l : List (Nat × List UInt8)) : (fun nm => lookN nm (l ++ [(i, sd)]) 0) = fun nm => lookN nm l 0 := by
  funext nm
  rw [lookN_snoc]
  simp only [h]
  cases lookN nm l 0 <;> simp
theorem lookN_again {sd o : List UInt8} (i : Nat) (h : labelF sd = some o) (l : List (Nat × List UInt8)) (ho : (lookN o l 0).isSome = true) : (fun nm => lookN nm (l ++ [(i, sd)]) 0) = fun nm => lookN nm l 0 := by
  funext nm
  rw [lookN_snoc]
  simp only [h]
  cases hq : lookN nm l 0 with
  | some y => rfl
  | none =>
    have : o ≠ nm := fun e => by rw [e, hq] at ho; cases ho
    simp [this]
theorem lookN_new {sd o : List UInt8} (i : Nat) (h : labelF sd = some o) (l : List (Nat × List UInt8)) (ho : lookN o l 0 = none) : (fun nm => lookN nm (l ++ [(i, sd)]) 0) = putL (fun nm => lookN nm l 0) o (i, placeN l 0) := by
  funext nm
  unfold putL
  rw [lookN_snoc]
  simp only [h]
  by_cases e : nm = o
  · subst e; rw [ho]; simp
  · rw [if_neg e]
    have : ¬ o = nm := fun q => e q.symm
    cases lookN nm l 0 <;> simp [this]
theorem leaves_plain {R : Ending → World → Prop} {fn : Func} {tmps : Array Value} {w : World} {v : Value} (h1 : (results fn tmps).run Tryz.prog w = .ok v w) (h2 : R (.returned v) w) : LeavesInM Fence.wide 9 Tryz.prog fn tmps R [] .returning w := ⟨v, h1, h2⟩
def xsOf (s : List UInt8) : List LX := preX (Lib.split s [10]) (Lib.split s [10]).length
theorem lines_stops (n : Nat) (hn : 1 ≤ n) (Bx : Nat) (S : Nat → Prop) (s : List UInt8) (hs : s.length ≤ 5000) (wb : World) (hna : NA wb) (w0 : World) (hb : Below wb.heap.size wb w0) (hS : ∀ b, S b → b < w0.heap.size) (h0 : w0.cell? ⟨Bx, 0, none⟩ = some (.string ⟨s.toArray⟩)) :
    SeqStopsK Fence.wide n Tryz.prog 78 #[.pointer (some ⟨Bx, 0, none⟩)] encX (KC wb.heap.size S) (fun ys => ys = xsOf s) (fun pre => pre <+: xsOf s) (xsOf s).length w0 := fun l J Jx W hW hJ _ hY hJ0 =>
  lines1_in n hn l Bx S s hs wb hna J Jx W (hb.trans (hW.mono hb.size)) (fun b h => Nat.lt_of_lt_of_le (hS b h) hW.size) (fun pre A B h _ hAB => hJ pre A B none h (grown_of_below hAB) (fun r e => by cases e)) hY ((hW.cell (p := ⟨Bx, 0, none⟩) (heap_lt_of_cell h0)).trans h0) hJ0
set_option maxRecDepth 100000 in
set_option maxHeartbeats 4000000 in
theorem gather_any (s : List UInt8) (w : World) (hn : NA w) (hs : s.length ≤ 5000) :
    Calls Tryz.prog 40 #[.string ⟨s.toArray⟩] w fun e w' => e = .returned (.map (some w.heap.size)) ∧ (∃ n, LabAt w' w.heap.size n (fun nm => lookN nm (vals (xsOf s)) 0)) ∧ Below w.heap.size w w' := by
  have hmm : ∀ W, (Instr.makeMap 60 none).run Tryz.prog W = .ok (.map (some W.heap.size)) (W.alloc (.map #[] 0)) := fun W => by
    unfold Instr.makeMap
    simp [Sem.run_bind, run_underlying Tryz.underlying60, go_sem]
  refine (callsIn_wide (n := 9)).1 ?_
  refine callsIn_of_wp_marks Tryz.func40 rfl trivial ?_ rfl
  simp only [Tryz.ntmps40, List.size_toArray, List.length_cons, List.length_nil, Nat.reduceAdd, Nat.reduceSub, Array.replicate_succ, Array.replicate_zero, List.push_toArray, List.append_toArray, List.nil_append, List.cons_append]
  refine wpIn_wide.2 ?_
  go_wp2_with (go_at_call 41; refine (lines_any s _).mono ?_; rintro e w1 ⟨rfl, rfl⟩)
  obtain ⟨W0, hW0⟩ : ∃ W0, (((w.alloc (.map #[] 0)).alloc (.cells #[.map (some w.heap.size)] 60)).alloc (.cells #[.int .i64 0] 3)).alloc (.cells #[.string ⟨s.toArray⟩] 9) = W0 := ⟨_, rfl⟩
  have hz0 : W0.heap.size = w.heap.size + 4 := by rw [← hW0]; simp
  have hb0 : Below w.heap.size w W0 := by rw [← hW0]; exact bAlloc (bAlloc (bAlloc (bAlloc (Below.refl _ _) _) _) _) _
  have hl0 : LabAt W0 w.heap.size 0 (fun _ => none) := by
    rw [← hW0]
    exact (((LabAt.made w).below (bAlloc (Below.refl _ _) _)).below (bAlloc (Below.refl _ _) _)).below (bAlloc (Below.refl _ _) _)
  have hm0 : BoxN W0 (w.heap.size + 1) #[.map (some w.heap.size)] := by
    rw [← hW0]
    have h := BoxN.new (w.alloc (.map #[] 0)) #[.map (some w.heap.size)] 60
    rw [World.size_alloc] at h
    exact boxN_alloc (boxN_alloc h _) _
  have hp0 : W0.heap[w.heap.size + 2]? = some (.cells #[.int .i64 0] 3 (0, 0)) := by
    rw [← hW0]
    have h := heap_alloc_new ((w.alloc (.map #[] 0)).alloc (.cells #[.map (some w.heap.size)] 60)) (.cells #[.int .i64 0] 3)
    rw [World.size_alloc, World.size_alloc] at h
    exact (Below.heap_alloc _ _ _ (by simp)).trans h
  have ht0 : W0.cell? ⟨w.heap.size + 1 + 1 + 1, 0, none⟩ = some (.string ⟨s.toArray⟩) := by
    rw [← hW0]
    have h := (BoxN.new (((w.alloc (.map #[] 0)).alloc (.cells #[.map (some w.heap.size)] 60)).alloc (.cells #[.int .i64 0] 3)) #[.string ⟨s.toArray⟩] 9).cell 0
    simpa using h
  have HST := Lib.hid (lines_stops 8 (by decide) (w.heap.size + 1 + 1 + 1) (fun b => b = w.heap.size + 2) s hs w hn W0 hb0 (fun b h => by omega) ht0)
  have HG0 : Hid (GatI w [] W0) := Lib.hid ⟨⟨0, Nat.le_refl _, hl0⟩, hm0, ⟨_, by decide, hp0⟩, hb0⟩
  have HOWN := Lib.hid (gatI_own w W0.heap.size (by omega))
  have HNM : Hid ((xsOf s).length ≤ 6000) := Lib.hid (by unfold xsOf; have h1 := preX_len (Lib.split s [10]) (Lib.split s [10]).length; have h2 := split_len s [10]; omega)
  rw [hW0]
  clear hW0 hl0 hm0 hp0 ht0 hb0 hmm hn
  refine (wpIn_wide (n := 9)).1 ?_
  refine wpIn_rangeFunc_ownG rfl (by decide) (gf := 78) (lb := #[.pointer (some ⟨w.heap.size + 1 + 1 + 1, 0, none⟩)]) rfl trivial (enters_of Tryz.func78 (by kernel_rfl) rfl) HST.out (fun h k => h.trans k) (fun W l o o' hl ho hc _ => KC.putObj W l o o' (by omega) ho hc) (Below.refl _ _) (fun _ => rfl)
    (GatI w) (fun _ _ _ => False) HOWN.out (fun _ _ _ _ _ hs _ _ => hs.elim) HG0.out
    (fun x => { tmps := #[.string ⟨s.toArray⟩, undef, .map none, .pointer (some ⟨w.heap.size + 1, 0, none⟩), .pointer (some ⟨w.heap.size + 1 + 1, 0, none⟩), .int .i64 (x.1.1 : Int), .string ⟨x.1.2.toArray⟩, undef, undef, undef, undef, .map (some w.heap.size), .string ⟨s.toArray⟩, .func (.func 78) #[] #[.pointer (some ⟨w.heap.size + 1 + 1 + 1, 0, none⟩)], .int .i64 (x.1.1 : Int), .string ⟨x.1.2.toArray⟩, undef, undef, undef, undef, undef, undef, undef, undef, undef, undef, undef, undef, undef, undef, undef, undef, undef, undef, undef, undef, undef, undef, undef], defers := [] }) ?assign ?body ?done ?stop
  case assign =>
    intro l x W K hK
    unfold encX
    gi_wp2
    exact hK
  case body =>
    rintro lp pre ⟨⟨i, sd⟩, hx1, hx2, hx3⟩ W ⟨⟨n, hn0, hlab⟩, hbm, ⟨t, ht, hpl⟩, hbel⟩ hlt
    have hlt' : pre.length < 6000 := Nat.lt_of_lt_of_le hlt HNM.out
    have hx1' : i ≤ 100000 := hx1.2
    have hx2' : sd.length ≤ 5000 := hx2
    have HLN := Lib.hid (labelName_any sd W (by omega))
    have hle := labelF_eq sd
    have hpn := placeN_le (vals pre) 0
    rw [vals_len] at hpn
    obtain ⟨pl, hplq⟩ : ∃ pl, placeN (vals pre) 0 = pl := ⟨_, rfl⟩
    rw [hplq] at hpl hpn
    have hvs := vals_snoc pre ⟨(i, sd), hx1, hx2, hx3⟩
    have cm := hbm.cell 0
    have cm : W.cell? ⟨w.heap.size + 1, 0, none⟩ = some (.map (some w.heap.size)) := cm
    have cp : W.cell? ⟨w.heap.size + 1 + 1, 0, none⟩ = some (.int .i64 (pl : Int)) := by simp [World.cell?, hpl]
    have fp : W.frozen? ⟨w.heap.size + 1 + 1, 0, none⟩ = false := by simp [World.frozen?, hpl]
    have HLAB := Lib.hid hlab
    have HBM := Lib.hid hbm
    have HPL := Lib.hid hpl
    have HBE := Lib.hid hbel
    have HT := Lib.hid ht
    have HVS := Lib.hid hvs
    have HPQ := Lib.hid hplq
    cases hlb : labelB sd with
    | false =>
      rw [hlb] at HLN hle
      rw [if_neg (by decide)] at hle
      have HLE := Lib.hid hle
      have hw4 : IntKind.i64.wrap ((pl : Int) + 4) = (pl : Int) + 4 := by rw [IntKind.wrap_i64]; omega
      clear hlab hbm hpl hbel ht hvs hplq hle hlb hlt hx1' hx2'
      gi_wp2_with (refine ⟨trivial, ?_⟩; gi_at_call 42; refine (CallsIn.inRound lp (callsIn_wide.2 HLN.out)).mono ?_; rintro e w' ⟨rfl, rfl⟩)
      refine ⟨(KeepsOthers.setCell _ _ _).from _, KC.set W (w.heap.size + 2) 0 _ (by omega) rfl, ⟨n, by rw [List.length_append]; omega, ?_⟩, HBM.out.other (by show w.heap.size + 1 ≠ w.heap.size + 2; omega), ⟨t, HT.out, ?_⟩, HBE.out.setCell (by show w.heap.size ≤ w.heap.size + 2; omega) _⟩
      · rw [HVS.out, lookN_no i HLE.out]
        exact HLAB.out.set (by show w.heap.size ≠ w.heap.size + 2; omega) _
      · have h := heap_set HPL.out 0 (.int .i64 ((pl : Int) + 4))
        rw [HVS.out, placeN_snoc, HPQ.out, HLE.out]
        exact h
    | true =>
      rw [hlb] at HLN hle
      rw [if_pos rfl] at hle
      have hol := Lib.trimSuffix_le sd [58]
      obtain ⟨o, ho⟩ : ∃ o, Lib.trimSuffix sd [58] = o := ⟨_, rfl⟩
      rw [ho] at HLN hle hol
      have HLE := Lib.hid hle
      obtain ⟨k1, -⟩ := hlab.look o (by omega)
      obtain ⟨y, hy⟩ : ∃ y, lookN o (vals pre) 0 = y := ⟨_, rfl⟩
      rw [hy] at k1
      have HY := Lib.hid hy
      have hxi : i ≤ 100000 := hx1.2
      cases y with
      | some y =>
        obtain ⟨y1, y2⟩ := y
        unfold labV at k1
        simp only [Option.getD_some, Option.isSome_some] at k1
        clear hlab hbm hpl hbel ht hvs hplq hle hlb hlt hx1' hx2' hol ho hy
        gi_wp2_with (refine ⟨trivial, ?_⟩; gi_at_call 42; refine (CallsIn.inRound lp (callsIn_wide.2 HLN.out)).mono ?_; rintro e w' ⟨rfl, rfl⟩)
        have hb9 : Below W.heap.size W (W.alloc (.cells #[.int .i64 y1, .int .i64 y2] 68)) := bAlloc (Below.refl _ _) _
        refine ⟨(KeepsOthers.alloc _ _).from _, KC.of_below hb9 HBE.out.size, ⟨n, by rw [List.length_append]; omega, ?_⟩, boxN_alloc HBM.out _, ⟨t, HT.out, ?_⟩, HBE.out.trans (hb9.mono HBE.out.size)⟩
        · rw [HVS.out, lookN_again i HLE.out _ (by rw [HY.out]; rfl)]
          exact HLAB.out.below hb9
        · rw [HVS.out, placeN_snoc, HPQ.out, HLE.out]
          exact (hb9.block _ (Array.getElem?_eq_some_iff.1 HPL.out).1).trans HPL.out
      | none =>
        unfold labV at k1
        simp only [Option.getD_none, Option.isSome_none] at k1
        have hb9 : Below W.heap.size W (W.alloc (.cells #[.int .i64 0, .int .i64 0] 68)) := bAlloc (Below.refl _ _) _
        have cm9 := (hb9.cell (heap_lt_of_cell cm)).trans cm
        have cp9 := (hb9.cell (heap_lt_of_cell cp)).trans cp
        have HG10 : Hid (W.heap.size ≤ W.heap.size) := Lib.hid (Nat.le_refl _)
        obtain ⟨W10, k2, hlab10, hg10⟩ := (hlab.below (bAlloc (Below.refl _ _) (.cells #[.int .i64 0, .int .i64 0] 68))).put o (by omega) (by omega) (i, pl)
        unfold labV at k2
        have HL10 := Lib.hid hlab10
        have HG10 := Lib.hid hg10
        clear hlab hbm hpl hbel ht hvs hplq hle hlb hlt hx1' hx2' hol ho hy hb9 hlab10 hg10 cm cp fp
        have cm : W.cell? ⟨w.heap.size + 1, 0, none⟩ = some (.map (some w.heap.size)) := HBM.out.cell 0
        gi_wp2_with (refine ⟨trivial, ?_⟩; gi_at_call 42; refine (CallsIn.inRound lp (callsIn_wide.2 HLN.out)).mono ?_; rintro e w' ⟨rfl, rfl⟩)
        have hb9 : Below W.heap.size W (W.alloc (.cells #[.int .i64 0, .int .i64 0] 68)) := bAlloc (Below.refl _ _) _
        have hl9 := HLAB.out.below hb9
        have hsW := HBE.out.size
        have hlt9 : w.heap.size < (W.alloc (.cells #[.int .i64 0, .int .i64 0] 68)).heap.size := hl9.lt
        have hpl9 := (hb9.block _ (Array.getElem?_eq_some_iff.1 HPL.out).1).trans HPL.out
        refine ⟨((KeepsOthers.alloc _ _).from _).trans (KeepsFrom.of_grownBy HG10.out (fun j e => by cases e; omega)), (KC.of_below hb9 hsW).trans (KC.grown HG10.out hl9.isMap (Nat.le_refl _) (Nat.le_of_lt hlt9)), ⟨n + 1, by rw [List.length_append]; show n + 1 ≤ pre.length + 1; omega, ?_⟩, (boxN_alloc HBM.out _).grown HG10.out (by simp), ⟨t, HT.out, ?_⟩, (HBE.out.trans (hb9.mono hsW)).grown HG10.out (Nat.le_of_lt hlt9) (fun k e => by cases e; exact Nat.le_refl _)⟩
        · rw [HVS.out, lookN_new i HLE.out _ HY.out, HPQ.out]
          exact HL10.out
        · rw [HVS.out, placeN_snoc, HPQ.out, HLE.out]
          exact (HG10.out.block _ (Array.getElem?_eq_some_iff.1 hpl9).1 (by simp)).trans hpl9
  case done =>
    rintro D ys W hD rfl ⟨⟨n, h0, h1⟩, h2, -, h4⟩ hKD
    have c := h2.cell 0
    have c : W.cell? ⟨w.heap.size + 1, 0, none⟩ = some (.map (some w.heap.size)) := c
    have H1 := Lib.hid h1
    have H4 := Lib.hid h4
    have HKD := Lib.hid hKD
    clear h0 h1 h2 h4 hKD
    go_wp2_with fail
    refine ⟨by simp, .inl ⟨D, _, rfl, run_takeDeferred HKD.out, ?_⟩⟩
    refine leaves_plain (v := .map (some w.heap.size)) (by simp [results, Tryz.results40, go_sem]) ⟨rfl, ⟨n, H1.out.kept (grownBy_putObj' W D (.deferred none)) (fun e => by cases e; omega)⟩, H4.out.grown (grownBy_putObj' W D (.deferred none)) H4.out.size (fun k e => by cases e; omega)⟩
  case stop =>
    rintro D c pre W hD _ hf _
    exact hf.elim
end Go.Proofs.YtdpmihlmfephiaaGreatDoor
