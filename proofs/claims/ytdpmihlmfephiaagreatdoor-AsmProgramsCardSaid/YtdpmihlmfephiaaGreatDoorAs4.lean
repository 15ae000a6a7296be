/- Merged: AsM AsN AsO AsP. -/
import Derived.RangeFuncNested
import Derived.RangeFuncBound
import Derived.RangeFuncCalls
import Derived.RangeFuncLeaves
import Derived.Shelf.Abstract
import Derived.Shelf.RegionOpen
import Derived.WalkKit
import Derived.OwnWalkIn
import Derived.TacticsInMore
import Derived.LoopNIn
import Derived.LoopIn
import Derived.Test.YtdpmihlmfephiaaGreatDoorAs3
import Derived.Maps.OwnIn
import Derived.Maps.OwnSet
import Derived.StringKeys
namespace Go.Proofs.YtdpmihlmfephiaaGreatDoor
set_option linter.unusedVariables false
set_option linter.unusedSimpArgs false
open Go.Joins Go.ChangeShapes Go.WideShapes Go.ChangeAt Go.RowKit Go.Deep Go.Shelf
attribute [local go_sem] Oper.semAt_some

/-- blocks of cells, but rows of bytes and those of S, stay; below n nothing is changed -/
structure KC (n : Nat) (S : Nat → Prop) (W W' : World) : Prop where
  below : Below n W W'
  block : ∀ b c t f, W.heap[b]? = some (.cells c t f) → t ≠ 5 → ¬ S b → W'.heap[b]? = some (.cells c t f)
theorem KC.refl (n : Nat) (S : Nat → Prop) (W : World) : KC n S W W := ⟨Below.refl _ _, fun _ _ _ _ h _ _ => h⟩
theorem KC.trans {n : Nat} {S : Nat → Prop} {A B C : World} (h : KC n S A B) (k : KC n S B C) : KC n S A C := ⟨h.below.trans k.below, fun b c t f h1 h2 h3 => k.block b c t f (h.block b c t f h1 h2 h3) h2 h3⟩
theorem KC.putObj {n : Nat} {S : Nat → Prop} (W : World) (l : Nat) (o o' : Go.Obj) (hl : n ≤ l) (ho : W.heap[l]? = some o) (hc : o.isCells = false) : KC n S W (W.putObj l o') :=
  ⟨(Below.refl n W).grown (grownBy_putObj' W l o') (by have := (Array.getElem?_eq_some_iff.1 ho).1; omega) (fun k e => by cases e; omega), fun b c t f h1 _ _ => by
    have hne : b ≠ l := fun e => by subst e; rw [ho] at h1; cases h1; cases hc
    exact (World.putObj_heap_other hne).trans h1⟩
theorem KC.of_below {n : Nat} {S : Nat → Prop} {W W' : World} (hb : Below W.heap.size W W') (hn : n ≤ W.heap.size) : KC n S W W' :=
  ⟨hb.mono hn, fun b c t f h1 _ _ => (hb.block b (Array.getElem?_eq_some_iff.1 h1).1).trans h1⟩
theorem KC.box {n : Nat} {S : Nat → Prop} {W W' : World} {B : Nat} {cs : Array Value} {t : TypeId} (h : KC n S W W') (hb : W.heap[B]? = some (.cells cs t (0, 0))) (ht : t ≠ 5) (hS : ¬ S B) : W'.heap[B]? = some (.cells cs t (0, 0)) := h.block _ _ _ _ hb ht hS
theorem grown_of_below {W W' : World} (hb : Below W.heap.size W W') : W.grownBy W' none := ⟨hb.os, hb.tape, hb.output, hb.size, fun i hi _ => hb.block i hi⟩

/-- a line that says something: its number, and what it says -/
def LX : Type := { x : Nat × List UInt8 // (1 ≤ x.1 ∧ x.1 ≤ 100000) ∧ x.2.length ≤ 5000 ∧ x.2 ≠ [] }
def mkX (i : Nat) (s : List UInt8) : Option LX := if h : (1 ≤ i ∧ i ≤ 100000) ∧ s.length ≤ 5000 ∧ s ≠ [] then some ⟨(i, s), h⟩ else none
def preX (L : List (List UInt8)) : Nat → List LX
  | 0 => []
  | k + 1 => preX L k ++ (mkX (k + 1) (cleanF (L.getD k []))).toList
theorem preX_le (L : List (List UInt8)) (j k : Nat) (h : j ≤ k) : (preX L j).length ≤ (preX L k).length := by
  induction k with
  | zero => obtain rfl : j = 0 := by omega
            exact Nat.le_refl _
  | succ k ih =>
    by_cases e : j = k + 1
    · subst e; exact Nat.le_refl _
    · have := ih (by omega)
      rw [show preX L (k + 1) = preX L k ++ (mkX (k + 1) (cleanF (L.getD k []))).toList from rfl, List.length_append]
      omega
theorem preX_pre (L : List (List UInt8)) (j k : Nat) (h : j ≤ k) : preX L j <+: preX L k := by
  induction k with
  | zero => obtain rfl : j = 0 := by omega
            exact List.prefix_refl _
  | succ k ih =>
    by_cases e : j = k + 1
    · subst e; exact List.prefix_refl _
    · exact (ih (by omega)).trans (List.prefix_append _ _)
theorem preX_len (L : List (List UInt8)) (k : Nat) : (preX L k).length ≤ k := by
  induction k with
  | zero => exact Nat.le_refl _
  | succ k ih =>
    rw [show preX L (k + 1) = preX L k ++ (mkX (k + 1) (cleanF (L.getD k []))).toList from rfl, List.length_append]
    cases mkX (k + 1) (cleanF (L.getD k [])) <;> simp <;> omega
def encX (x : LX) : Array Value := #[.int .i64 (x.1.1 : Int), .string ⟨x.1.2.toArray⟩]
theorem lines_any (s : List UInt8) (w : World) :
    Calls Tryz.prog 41 #[.string ⟨s.toArray⟩] w fun e w' => e = .returned (.func (.func 78) #[] #[.pointer (some ⟨w.heap.size, 0, none⟩)]) ∧ w' = w.alloc (.cells #[.string ⟨s.toArray⟩] 9) := by
  go_enter Tryz.func41, Tryz.ntmps41
  go_wp2_with fail
  go_ret
  exact ⟨rfl, rfl⟩
theorem trimB_le (l : List UInt8) (c : UInt8) : (Lib.trimB l c).length ≤ l.length := by
  unfold Lib.trimB Lib.trimLeftB Lib.trimRightB
  refine Nat.le_trans (List.dropWhile_sublist _).length_le ?_
  rw [List.length_reverse]
  refine Nat.le_trans (List.dropWhile_sublist _).length_le ?_
  rw [List.length_reverse]; exact Nat.le_refl _
theorem cleanF_le (l : List UInt8) : (cleanF l).length ≤ l.length := by
  unfold cleanF
  exact Nat.le_trans (trimB_le _ _) (cut_le l [59]).1
set_option maxRecDepth 100000 in
set_option maxHeartbeats 4000000 in
theorem lines1_in (n : Nat) (hn : 1 ≤ n) (l Bx : Nat) (S : Nat → Prop) (s : List UInt8) (hs : s.length ≤ 5000) (wb : World) (hna : NA wb) (J Jx : List LX → World → Prop)
    (W : World) (hbW : Below wb.heap.size wb W) (hS : ∀ b, S b → b < W.heap.size) (hJB : ∀ pre A B, J pre A → W.heap.size ≤ A.heap.size → Below A.heap.size A B → J pre B)
    (hY : ∀ pre x W1, J pre W1 → pre.length < (preX (Lib.split s [10]) (Lib.split s [10]).length).length → YieldAt Fence.wide (n - 1) Tryz.prog l (encX x) W1 fun e W' =>
      (e = .returned (.bool true) ∧ J (pre ++ [x]) W' ∧ KC wb.heap.size S W1 W') ∨ (e = .returned (.bool false) ∧ Jx (pre ++ [x]) W'))
    (h0 : W.cell? ⟨Bx, 0, none⟩ = some (.string ⟨s.toArray⟩)) (hJ0 : J [] W) :
    CallsIn Fence.wide n Tryz.prog 78 #[.func (.yield l) #[] #[], .pointer (some ⟨Bx, 0, none⟩)] W fun e W' => (∃ v, e = .returned v) ∧
      ((∃ ys, ys = preX (Lib.split s [10]) (Lib.split s [10]).length ∧ J ys W') ∨ (∃ pre, pre <+: preX (Lib.split s [10]) (Lib.split s [10]).length ∧ Jx pre W')) := by
  have HNW := Lib.hid (hna.on hbW)
  have HSP := Lib.hid (split_any s [10] W HNW.out (by omega) (by decide))
  have hle := split_le s [10]
  have hln := split_len s [10]
  have HTX := Lib.hid (TX.split W (Lib.split s [10]))
  have HBS := Lib.hid (below_split W (Lib.split s [10]))
  obtain ⟨L, hL⟩ : ∃ L, Lib.split s [10] = L := ⟨_, rfl⟩
  rw [hL] at HSP HTX HBS hle hln hY ⊢
  obtain ⟨W2, hW2⟩ : ∃ W2, splitW W L = W2 := ⟨_, rfl⟩
  have HWB : Hid (W2.heap[W.heap.size]? = some (.cells (L.map strV).toArray 9 (0, 0))) := Lib.hid (hW2 ▸ heap_alloc_new W _)
  rw [hW2] at HSP HTX HBS
  obtain ⟨m, hm⟩ : ∃ m, L.length = m := ⟨_, rfl⟩
  rw [hm] at HSP hY ⊢
  have HJB := Lib.hid hJB
  have HY := Lib.hid hY
  have HJ2 := Lib.hid (hJB [] W W2 hJ0 (Nat.le_refl _) HBS.out)
  have HB2 := Lib.hid (hbW.trans (HBS.out.mono hbW.size))
  have HS := Lib.hid hS
  have HLE := Lib.hid hle
  have hml : m ≤ 5010 := by omega
  have HNA := Lib.hid hna
  have HM := Lib.hid hm
  have HSZ := Lib.hid HBS.out.size
  clear hJB hY hJ0 hbW hS hle hln hL hW2 hna hm
  refine callsIn_of_wp Tryz.func78 rfl trivial ?_ rfl
  simp only [Tryz.ntmps78, List.size_toArray, List.length_cons, List.length_nil, Nat.reduceAdd, Nat.reduceSub, Array.replicate_succ, Array.replicate_zero, List.push_toArray, List.append_toArray, List.nil_append, List.cons_append]
  gi_wp2_with (refine ⟨trivial, ?_⟩; gi_at_call 76; refine (callsIn_wide.2 HSP.out).mono ?_; rintro e w1 ⟨rfl, rfl⟩)
  gi_loopw [11] (fun i wr => ∃ k : Nat, k ≤ m ∧ i = .int .i64 k ∧ Hid (J (preX L k) wr) ∧ Hid (wr.heap[W.heap.size]? = some (.cells (L.map strV).toArray 9 (0, 0))) ∧ Hid (Below wb.heap.size wb wr) ∧ Hid (W.heap.size ≤ wr.heap.size)) (fun i _ => m - (intOf i).toNat)
  case atStart => exact ⟨0, by omega, rfl, HJ2, HWB, HB2, HSZ⟩
  case round =>
    obtain ⟨k, hk, rfl, HJ, HC, HB, HZ⟩ := hrel
    by_cases h : k < m
    · have hkl : k < L.length := by rw [HM.out]; exact h
      have hd : decide (k < m) = true := decide_eq_true h
      have hcell : wr.cell? ⟨W.heap.size, k, none⟩ = some (.string ⟨L[k].toArray⟩) := by
        have := HC.out
        simp [World.cell?, this, strV, hkl]
      have hyl := HLE.out L[k] (List.getElem_mem hkl)
      have hgd : L.getD k [] = L[k] := by simp [hkl]
      obtain ⟨y, hy⟩ : ∃ y, L[k] = y := ⟨_, rfl⟩
      rw [hy] at hcell hyl hgd
      have HCUT := Lib.hid (cut_any y [59] wr (HNA.out.on HB.out) (by omega))
      have hcl := (cut_le y [59]).1
      have HTR := Lib.hid (fun W => trim_any (Lib.cut y [59]).1 32 W (by decide) (by omega))
      have hcf : Lib.trimB (Lib.cut y [59]).1 32 = cleanF y := rfl
      have hcy := cleanF_le y
      rw [hcf] at HTR
      obtain ⟨z, hz⟩ : ∃ z, cleanF y = z := ⟨_, rfl⟩
      rw [hz] at HTR hcy
      obtain ⟨c1, hc1⟩ : ∃ c1, (Lib.cut y [59]).1 = c1 := ⟨_, rfl⟩
      rw [hc1] at HCUT HTR
      by_cases hze : z = []
      · have hpre : preX L (k + 1) = preX L k := by
          show preX L k ++ (mkX (k + 1) (cleanF (L.getD k []))).toList = _
          rw [hgd, hz, hze]
          simp [mkX]
        have HPRE := Lib.hid hpre
        subst hze
        clear hpre hcf hcl hcy hyl hgd hy hkl hz hc1
        gi_wp2_with (first
          | (refine ⟨trivial, ?_⟩; gi_at_call 32; refine (callsIn_wide.2 HCUT.out).mono ?_; rintro e w2 ⟨rfl, hb⟩; have HD2 := Lib.hid hb; clear hb)
          | (refine ⟨trivial, ?_⟩; gi_at_call 79; refine (callsIn_wide.2 (HTR.out _)).mono ?_; rintro e w3 ⟨rfl, hb⟩; have HD3 := Lib.hid (HD2.out.trans (hb.mono HD2.out.size)); clear hb))
        refine ⟨fun _ h => (by cases h), ?_⟩
        gi_wp2
        go_roundw
        case rel => exact ⟨k + 1, by omega, by go_num, by rw [HPRE.out]; exact Lib.hid (HJB.out _ wr w3 HJ.out HZ.out HD3.out), Lib.hid ((HD3.out.block _ (Array.getElem?_eq_some_iff.1 HC.out).1).trans HC.out), Lib.hid (HB.out.trans (HD3.out.mono HB.out.size)), Lib.hid (Nat.le_trans HZ.out HD3.out.size)⟩
        case measure => simp [intOf]; omega
      · have hpz : (1 ≤ k + 1 ∧ k + 1 ≤ 100000) ∧ z.length ≤ 5000 ∧ z ≠ [] := ⟨by omega, by omega, hze⟩
        have hmk : mkX (k + 1) z = some ⟨(k + 1, z), hpz⟩ := by unfold mkX; rw [dif_pos hpz]
        obtain ⟨x, hx⟩ : ∃ x : LX, x = ⟨(k + 1, z), hpz⟩ := ⟨_, rfl⟩
        rw [← hx] at hmk
        have hpre : preX L (k + 1) = preX L k ++ [x] := by
          show preX L k ++ (mkX (k + 1) (cleanF (L.getD k []))).toList = _
          rw [hgd, hz, hmk]; rfl
        have hlt : (preX L k).length < (preX L m).length := by
          have h1 := preX_le L (k + 1) m (by omega)
          rw [hpre, List.length_append] at h1
          simp only [List.length_cons, List.length_nil] at h1
          omega
        have HPX := Lib.hid (show preX L k ++ [x] <+: preX L m from hpre ▸ preX_pre L (k + 1) m (by omega))
        have HYK := Lib.hid (fun W1 (hJ : J (preX L k) W1) => HY.out (preX L k) x W1 hJ hlt)
        have henc : encX x = #[.int .i64 ((k : Int) + 1), .string ⟨z.toArray⟩] := by rw [hx]; rfl
        rw [henc] at HYK
        have HPRE := Lib.hid hpre
        have hne1 : (z == []) = false := by simpa using hze
        have hne2 : (z != []) = true := by simpa using hze
        clear hpre hcf hcl hcy hyl hgd hy hkl hz hc1 hlt henc hmk hx hze hpz
        gi_wp2_with (first
          | (refine ⟨trivial, ?_⟩; gi_at_call 32; refine (callsIn_wide.2 HCUT.out).mono ?_; rintro e w2 ⟨rfl, hb⟩; have HD2 := Lib.hid hb; clear hb)
          | (refine ⟨trivial, ?_⟩; gi_at_call 79; refine (callsIn_wide.2 (HTR.out _)).mono ?_; rintro e w3 ⟨rfl, hb⟩; have HD3 := Lib.hid (HD2.out.trans (hb.mono HD2.out.size)); clear hb; obtain ⟨fn, tmps, assign, body, hy, hR⟩ := HYK.out w3 (HJB.out _ wr w3 HJ.out HZ.out HD3.out); have HR := Lib.hid hR; clear hR))
        refine HR.out.mono ?_
        rintro e W4 (⟨rfl, hJ4, hk4⟩ | ⟨rfl, hJx4⟩)
        · have HJ4 := Lib.hid hJ4
          have HK4 := Lib.hid hk4
          clear hJ4 hk4 hy
          gi_wp2
          go_roundw
          case rel =>
            have hc3 := (HD3.out.block _ (Array.getElem?_eq_some_iff.1 HC.out).1).trans HC.out
            refine ⟨k + 1, by omega, by go_num, by rw [HPRE.out]; exact HJ4, Lib.hid (HK4.out.box hc3 (by decide) (fun h => by have := HS.out _ h; omega)), Lib.hid ((HB.out.trans (HD3.out.mono HB.out.size)).trans HK4.out.below), Lib.hid (Nat.le_trans HZ.out (Nat.le_trans HD3.out.size HK4.out.below.size))⟩
          case measure => simp [intOf]; omega
        · clear hy
          gi_wp2
          refine bodyPost_ret (results_none rfl _ _ _) rfl ?_
          exact ⟨⟨_, rfl⟩, .inr ⟨_, HPX.out, hJx4⟩⟩
    · obtain rfl : k = m := by omega
      gi_wp2
      go_end0
      exact ⟨⟨_, rfl⟩, .inl ⟨_, rfl, HJ.out⟩⟩
end Go.Proofs.YtdpmihlmfephiaaGreatDoor

namespace Go.Proofs.YtdpmihlmfephiaaGreatDoor
set_option linter.unusedVariables false
set_option linter.unusedSimpArgs false
open Go.Joins Go.ChangeShapes Go.WideShapes Go.ChangeAt Go.RowKit Go.Deep Go.Shelf
attribute [local go_sem] Oper.semAt_some

def labV (y : Nat × Nat) : Value := .agg #[.int .i64 (y.1 : Int), .int .i64 (y.2 : Int)]
def labZ (y : Nat × Nat) : DataW Unit := .agg [.lit (.int .i64 (y.1 : Int)), .lit (.int .i64 (y.2 : Int))]
def labR (v : Value) : Option (DataW Unit × List MemPlace) := match v with
  | .agg ⟨[.int .i64 a, .int .i64 b]⟩ => some (.agg [.lit (.int .i64 a), .lit (.int .i64 b)], [])
  | _ => none
theorem labR_mk (y : Nat × Nat) : labR (labV y) = some (labZ y, []) := rfl
theorem labR_inv {v : Value} {y : Nat × Nat} {ps : List MemPlace} (h : labR v = some (labZ y, ps)) : v = labV y := by
  unfold labR at h
  split at h
  · rename_i a b
    simp only [labZ, Option.some.injEq, Prod.mk.injEq, DataW.agg.injEq, List.cons.injEq, DataW.lit.injEq, Lit.int.injEq, true_and, and_true] at h
    obtain ⟨⟨rfl, rfl⟩, -⟩ := h
    rfl
  · cases h
theorem keyedL : Maps.Keyed Tryz.prog 9 := Maps.string_keyed Tryz.underlying9
theorem key_of (name : List UInt8) (h : name.length ≤ 1000000) : keyOf Tryz.prog 9 (.string ⟨name.toArray⟩) = some (.string name) := by
  have := WideMaps.keyOf_string_mk (P := Tryz.prog) Tryz.underlying9 (s := ⟨name.toArray⟩) (by show name.toArray.size ≤ maxLen; unfold maxLen; simp; omega)
  simpa using this
def SaysL (D : DataW Unit) (f : List UInt8 → Option (Nat × Nat)) : Prop := ∀ nm, D.atKey (.string nm) (labZ (0, 0)) = labZ ((f nm).getD (0, 0)) ∧ Maps.has D (.string nm) = (f nm).isSome
/-- block b is a map of labels that says f -/
def LabAt (w : World) (b n : Nat) (f : List UInt8 → Option (Nat × Nat)) : Prop := ∃ D, w.ownsMap (H := Unit) Tryz.prog 9 labR b n D ∧ SaysL D f
theorem LabAt.lt {w : World} {b n : Nat} {f : List UInt8 → Option (Nat × Nat)} (h : LabAt w b n f) : b < w.heap.size := by obtain ⟨D, ho, -⟩ := h; exact ho.lt
theorem LabAt.kept {w w' : World} {b n : Nat} {f : List UInt8 → Option (Nat × Nat)} {row : Option Nat} (h : LabAt w b n f) (hg : w.grownBy w' row) (hr : row ≠ some b) : LabAt w' b n f := by
  obtain ⟨D, ho, hs⟩ := h
  exact ⟨D, ho.kept hg (fun e => hr e.symm), hs⟩
theorem LabAt.below {w w' : World} {b n : Nat} {f : List UInt8 → Option (Nat × Nat)} (h : LabAt w b n f) (hb : Below w.heap.size w w') : LabAt w' b n f := h.kept (grown_of_below hb) (by simp)
theorem LabAt.set {w : World} {b n : Nat} {f : List UInt8 → Option (Nat × Nat)} (h : LabAt w b n f) {a : Addr} (ha : b ≠ a.block) (u : Value) : LabAt (w.setCell a u) b n f := by
  obtain ⟨D, ho, hs⟩ := h
  exact ⟨D, ho.setCell ha u, hs⟩
theorem LabAt.made (w : World) : LabAt (w.alloc (.map #[] 0)) w.heap.size 0 (fun _ => none) := ⟨.map [], World.ownsMap_made _ _ _ _, fun nm => ⟨rfl, rfl⟩⟩
theorem zeroLab (w : World) : (zeroValue 68).run Tryz.prog w = .ok (labV (0, 0)) w := by kernel_rfl
theorem LabAt.look {w : World} {b n : Nat} {f : List UInt8 → Option (Nat × Nat)} (h : LabAt w b n f) (nm : List UInt8) (hl : nm.length ≤ 1000000) :
    (Instr.lookup 60 (.map (some b)) (.string ⟨nm.toArray⟩) true).run Tryz.prog w = .ok (.tuple #[labV ((f nm).getD (0, 0)), .bool (f nm).isSome]) w ∧
    (Instr.lookup 60 (.map (some b)) (.string ⟨nm.toArray⟩) false).run Tryz.prog w = .ok (labV ((f nm).getD (0, 0))) w := by
  obtain ⟨D, ho, hs⟩ := h
  obtain ⟨v, ps, h1, h2⟩ := ho.look_ok keyedL Tryz.underlying60 (zeroLab w) (labR_mk (0, 0)) (key_of nm hl)
  obtain ⟨v', ps', h3, h4⟩ := ho.lookup keyedL Tryz.underlying60 (zeroLab w) (labR_mk (0, 0)) (key_of nm hl)
  obtain ⟨g1, g2⟩ := hs nm
  rw [g1] at h2 h4
  rw [labR_inv h2, g2] at h1
  rw [labR_inv h4] at h3
  exact ⟨h1, h3⟩
def putL (f : List UInt8 → Option (Nat × Nat)) (nm : List UInt8) (y : Nat × Nat) : List UInt8 → Option (Nat × Nat) := fun k => if k = nm then some y else f k
theorem LabAt.put {w : World} {b n : Nat} {f : List UInt8 → Option (Nat × Nat)} (h : LabAt w b n f) (nm : List UInt8) (hl : nm.length ≤ 1000000) (hn : n ≤ 1000000) (y : Nat × Nat) :
    ∃ w', (Instr.mapUpdate 60 (.map (some b)) (.string ⟨nm.toArray⟩) (labV y)).run Tryz.prog w = .ok () w' ∧ LabAt w' b (n + 1) (putL f nm y) ∧ w.grownBy w' (some b) := by
  obtain ⟨D, ho, hs⟩ := h
  obtain ⟨w', h1, h2, h3⟩ := ho.update keyedL Tryz.underlying60 (by unfold maxLen; omega) (key_of nm hl) (labR_mk y)
  refine ⟨w', h1, ⟨_, h2, fun k => ?_⟩, h3⟩
  unfold putL
  by_cases e : k = nm
  · subst e
    have hk : WideAt.IsKeyLit (Lit.string k) := trivial
    rw [if_pos rfl, Maps.atKey_put_same ho.isMap hk, Maps.has_put_same ho.isMap hk]
    exact ⟨rfl, rfl⟩
  · have hne : (Lit.string k) ≠ Lit.string nm := fun q => e (by injection q)
    rw [if_neg e, Maps.atKey_put_other hne, Maps.has_put_other hne]
    exact hs k
/-! Labels of a list of lines. -/
def placeN : List (Nat × List UInt8) → Nat → Nat
  | [], a => a
  | x :: r, a => if (labelF x.2).isSome = true then placeN r a else placeN r (a + 4)
theorem placeN_snoc (x : Nat × List UInt8) : ∀ (l : List (Nat × List UInt8)) (a : Nat), placeN (l ++ [x]) a = if (labelF x.2).isSome = true then placeN l a else placeN l a + 4
  | [], a => by simp [placeN]
  | z :: r, a => by
    rw [List.cons_append]
    unfold placeN
    split
    · exact placeN_snoc x r a
    · exact placeN_snoc x r (a + 4)
theorem lookN_snoc (nm : List UInt8) (x : Nat × List UInt8) : ∀ (l : List (Nat × List UInt8)) (a : Nat), lookN nm (l ++ [x]) a = match lookN nm l a with
    | some y => some y
    | none => if labelF x.2 = some nm then some (x.1, placeN l a) else none
  | [], a => by
    simp only [List.nil_append, lookN, placeN]
    cases h : labelF x.2 with
    | none => simp
    | some o =>
      by_cases e : o = nm
      · subst e; simp
      · simp [e]
  | z :: r, a => by
    rw [List.cons_append]
    cases h : labelF z.2 with
    | none =>
      have h1 : ∀ l, lookN nm (z :: l) a = lookN nm l (a + 4) := fun l => by simp only [lookN, h]
      have h2 : placeN (z :: r) a = placeN r (a + 4) := by simp [placeN, h]
      rw [h1, h1, h2]
      exact lookN_snoc nm x r (a + 4)
    | some o =>
      have h2 : placeN (z :: r) a = placeN r a := by simp [placeN, h]
      by_cases e : o = nm
      · have h1 : ∀ l, lookN nm (z :: l) a = some (z.1, a) := fun l => by simp only [lookN, h]; rw [if_pos e]
        rw [h1, h1]
      · have h1 : ∀ l, lookN nm (z :: l) a = lookN nm l a := fun l => by simp only [lookN, h]; rw [if_neg e]
        rw [h1, h1, h2]
        exact lookN_snoc nm x r a
theorem placeN_le (l : List (Nat × List UInt8)) (a : Nat) : placeN l a ≤ a + 4 * l.length := by
  induction l generalizing a with
  | nil => exact Nat.le_refl _
  | cons x r ih =>
    unfold placeN
    rw [List.length_cons]
    split
    · have := ih a; omega
    · have := ih (a + 4); omega
def vals (pre : List LX) : List (Nat × List UInt8) := pre.map (·.1)
theorem vals_snoc (pre : List LX) (x : LX) : vals (pre ++ [x]) = vals pre ++ [x.1] := by unfold vals; rw [List.map_append]; rfl
theorem vals_len (pre : List LX) : (vals pre).length = pre.length := List.length_map _
def GatI (w : World) (pre : List LX) (W : World) : Prop :=
  (∃ n, n ≤ pre.length ∧ LabAt W w.heap.size n (fun nm => lookN nm (vals pre) 0)) ∧ BoxN W (w.heap.size + 1) #[.map (some w.heap.size)] ∧ (∃ t, t ≠ 5 ∧ W.heap[w.heap.size + 2]? = some (.cells #[.int .i64 (placeN (vals pre) 0 : Int)] t (0, 0))) ∧ Below w.heap.size w W
theorem gatI_own (w : World) (B : Nat) (hB : w.heap.size + 3 ≤ B) : OwnFrom B (GatI w) := by
  rintro pre A W row ⟨⟨n, h0, h1⟩, h2, ⟨t, h3, h4⟩, h5⟩ hg hr
  have hr' : ∀ r, row = some r → ∃ o : Go.Obj, A.heap[r]? = some o ∧ o.isCells = false := fun r e => (hr r e).2
  have hne : ∀ b, b < B → row ≠ some b := fun b hb e => by have := (hr b e).1; omega
  have hl : w.heap.size + 2 < A.heap.size := (Array.getElem?_eq_some_iff.1 h4).1
  exact ⟨⟨n, h0, h1.kept hg (hne _ (by omega))⟩, h2.kept hg hr', ⟨t, h3, (hg.block _ hl (fun e => hne _ (by omega) e.symm)).trans h4⟩, h5.grown hg h5.size (fun k e => by have := (hr k e).1; omega)⟩
end Go.Proofs.YtdpmihlmfephiaaGreatDoor

namespace Go.Proofs.YtdpmihlmfephiaaGreatDoor
set_option linter.unusedVariables false
set_option linter.unusedSimpArgs false
open Go.Joins Go.ChangeShapes Go.WideShapes Go.ChangeAt Go.RowKit Go.Deep Go.Shelf
attribute [local go_sem] Oper.semAt_some

theorem heap_set {W : World} {B : Nat} {cs : Array Value} {t : TypeId} (h : W.heap[B]? = some (.cells cs t (0, 0))) (j : Nat) (x : Value) : (W.setCell ⟨B, j, none⟩ x).heap[B]? = some (.cells (cs.setIfInBounds j x) t (0, 0)) := by
  obtain ⟨hlt, hk⟩ := Array.getElem?_eq_some_iff.1 h
  show (W.heap.modify B _)[B]? = _
  rw [Array.getElem?_eq_getElem (by rw [Array.size_modify]; exact hlt), Array.getElem_modify_self, hk]
  rfl
theorem KC.set {n : Nat} {S : Nat → Prop} (W : World) (B j : Nat) (u : Value) (hn : n ≤ B) (hS : S B) : KC n S W (W.setCell ⟨B, j, none⟩ u) :=
  ⟨(Below.refl n W).setCell (p := ⟨B, j, none⟩) hn u, fun b c t f h1 _ h3 => (Below.heap_setCell _ _ _ _ (fun e => h3 (by have e' : b = B := e; rw [e']; exact hS))).trans h1⟩
theorem LabAt.isMap {w : World} {b n : Nat} {f : List UInt8 → Option (Nat × Nat)} (h : LabAt w b n f) : ∃ es clock, w.heap[b]? = some (.map es clock) := by
  obtain ⟨D, ⟨es, clock, hb, -⟩, -⟩ := h
  exact ⟨es, clock, hb⟩
theorem KC.grown {n : Nat} {S : Nat → Prop} {W W' : World} {mb : Nat} (hg : W.grownBy W' (some mb)) (hm : ∃ es clock, W.heap[mb]? = some (.map es clock)) (hn : n ≤ mb) (hW : n ≤ W.heap.size) : KC n S W W' :=
  ⟨(Below.refl n W).grown hg hW (fun k e => by cases e; exact hn), fun b c t f h1 _ _ => (hg.block b (Array.getElem?_eq_some_iff.1 h1).1 (fun e => by
    obtain ⟨es, clock, hm⟩ := hm
    cases e
    rw [hm] at h1; cases h1)).trans h1⟩
theorem lookN_no {sd : List UInt8} (i : Nat) (h : labelF sd = none) (l : List (Nat × List UInt8)) : (fun nm => lookN nm (l ++ [(i, sd)]) 0) = fun nm => lookN nm l 0 := by
  funext nm
  rw [lookN_snoc]
  simp only [h]
  cases lookN nm l 0 <;> simp
theorem lookN_again {sd o : List UInt8} (i : Nat) (h : labelF sd = some o) (l : List (Nat × List UInt8)) (ho : (lookN o l 0).isSome = true) : (fun nm => lookN nm (l ++ [(i, sd)]) 0) = fun nm => lookN nm l 0 := by
  funext nm
  rw [lookN_snoc]
  simp only [h]
  cases hq : lookN nm l 0 with
  | some y => rfl
  | none =>
    have : o ≠ nm := fun e => by rw [e, hq] at ho; cases ho
    simp [this]
theorem lookN_new {sd o : List UInt8} (i : Nat) (h : labelF sd = some o) (l : List (Nat × List UInt8)) (ho : lookN o l 0 = none) : (fun nm => lookN nm (l ++ [(i, sd)]) 0) = putL (fun nm => lookN nm l 0) o (i, placeN l 0) := by
  funext nm
  unfold putL
  rw [lookN_snoc]
  simp only [h]
  by_cases e : nm = o
  · subst e; rw [ho]; simp
  · rw [if_neg e]
    have : ¬ o = nm := fun q => e q.symm
    cases lookN nm l 0 <;> simp [this]
theorem leaves_plain {R : Ending → World → Prop} {fn : Func} {tmps : Array Value} {w : World} {v : Value} (h1 : (results fn tmps).run Tryz.prog w = .ok v w) (h2 : R (.returned v) w) : LeavesInM Fence.wide 9 Tryz.prog fn tmps R [] .returning w := ⟨v, h1, h2⟩
def xsOf (s : List UInt8) : List LX := preX (Lib.split s [10]) (Lib.split s [10]).length
theorem lines_stops (n : Nat) (hn : 1 ≤ n) (Bx : Nat) (S : Nat → Prop) (s : List UInt8) (hs : s.length ≤ 5000) (wb : World) (hna : NA wb) (w0 : World) (hb : Below wb.heap.size wb w0) (hS : ∀ b, S b → b < w0.heap.size) (h0 : w0.cell? ⟨Bx, 0, none⟩ = some (.string ⟨s.toArray⟩)) :
    SeqStopsK Fence.wide n Tryz.prog 78 #[.pointer (some ⟨Bx, 0, none⟩)] encX (KC wb.heap.size S) (fun ys => ys = xsOf s) (fun pre => pre <+: xsOf s) (xsOf s).length w0 := fun l J Jx W hW hJ _ hY hJ0 =>
  lines1_in n hn l Bx S s hs wb hna J Jx W (hb.trans (hW.mono hb.size)) (fun b h => Nat.lt_of_lt_of_le (hS b h) hW.size) (fun pre A B h _ hAB => hJ pre A B none h (grown_of_below hAB) (fun r e => by cases e)) hY ((hW.cell (p := ⟨Bx, 0, none⟩) (heap_lt_of_cell h0)).trans h0) hJ0
set_option maxRecDepth 100000 in
set_option maxHeartbeats 4000000 in
theorem gather_any (s : List UInt8) (w : World) (hn : NA w) (hs : s.length ≤ 5000) :
    Calls Tryz.prog 40 #[.string ⟨s.toArray⟩] w fun e w' => e = .returned (.map (some w.heap.size)) ∧ (∃ n, LabAt w' w.heap.size n (fun nm => lookN nm (vals (xsOf s)) 0)) ∧ Below w.heap.size w w' := by
  have hmm : ∀ W, (Instr.makeMap 60 none).run Tryz.prog W = .ok (.map (some W.heap.size)) (W.alloc (.map #[] 0)) := fun W => by
    unfold Instr.makeMap
    simp [Sem.run_bind, run_underlying Tryz.underlying60, go_sem]
  refine (callsIn_wide (n := 9)).1 ?_
  refine callsIn_of_wp_marks Tryz.func40 rfl trivial ?_ rfl
  simp only [Tryz.ntmps40, List.size_toArray, List.length_cons, List.length_nil, Nat.reduceAdd, Nat.reduceSub, Array.replicate_succ, Array.replicate_zero, List.push_toArray, List.append_toArray, List.nil_append, List.cons_append]
  refine wpIn_wide.2 ?_
  go_wp2_with (go_at_call 41; refine (lines_any s _).mono ?_; rintro e w1 ⟨rfl, rfl⟩)
  obtain ⟨W0, hW0⟩ : ∃ W0, (((w.alloc (.map #[] 0)).alloc (.cells #[.map (some w.heap.size)] 60)).alloc (.cells #[.int .i64 0] 3)).alloc (.cells #[.string ⟨s.toArray⟩] 9) = W0 := ⟨_, rfl⟩
  have hz0 : W0.heap.size = w.heap.size + 4 := by rw [← hW0]; simp
  have hb0 : Below w.heap.size w W0 := by rw [← hW0]; exact bAlloc (bAlloc (bAlloc (bAlloc (Below.refl _ _) _) _) _) _
  have hl0 : LabAt W0 w.heap.size 0 (fun _ => none) := by
    rw [← hW0]
    exact (((LabAt.made w).below (bAlloc (Below.refl _ _) _)).below (bAlloc (Below.refl _ _) _)).below (bAlloc (Below.refl _ _) _)
  have hm0 : BoxN W0 (w.heap.size + 1) #[.map (some w.heap.size)] := by
    rw [← hW0]
    have h := BoxN.new (w.alloc (.map #[] 0)) #[.map (some w.heap.size)] 60
    rw [World.size_alloc] at h
    exact boxN_alloc (boxN_alloc h _) _
  have hp0 : W0.heap[w.heap.size + 2]? = some (.cells #[.int .i64 0] 3 (0, 0)) := by
    rw [← hW0]
    have h := heap_alloc_new ((w.alloc (.map #[] 0)).alloc (.cells #[.map (some w.heap.size)] 60)) (.cells #[.int .i64 0] 3)
    rw [World.size_alloc, World.size_alloc] at h
    exact (Below.heap_alloc _ _ _ (by simp)).trans h
  have ht0 : W0.cell? ⟨w.heap.size + 1 + 1 + 1, 0, none⟩ = some (.string ⟨s.toArray⟩) := by
    rw [← hW0]
    have h := (BoxN.new (((w.alloc (.map #[] 0)).alloc (.cells #[.map (some w.heap.size)] 60)).alloc (.cells #[.int .i64 0] 3)) #[.string ⟨s.toArray⟩] 9).cell 0
    simpa using h
  have HST := Lib.hid (lines_stops 8 (by decide) (w.heap.size + 1 + 1 + 1) (fun b => b = w.heap.size + 2) s hs w hn W0 hb0 (fun b h => by omega) ht0)
  have HG0 : Hid (GatI w [] W0) := Lib.hid ⟨⟨0, Nat.le_refl _, hl0⟩, hm0, ⟨_, by decide, hp0⟩, hb0⟩
  have HOWN := Lib.hid (gatI_own w W0.heap.size (by omega))
  have HNM : Hid ((xsOf s).length ≤ 6000) := Lib.hid (by unfold xsOf; have h1 := preX_len (Lib.split s [10]) (Lib.split s [10]).length; have h2 := split_len s [10]; omega)
  rw [hW0]
  clear hW0 hl0 hm0 hp0 ht0 hb0 hmm hn
  refine (wpIn_wide (n := 9)).1 ?_
  refine wpIn_rangeFunc_ownG rfl (by decide) (gf := 78) (lb := #[.pointer (some ⟨w.heap.size + 1 + 1 + 1, 0, none⟩)]) rfl trivial (enters_of Tryz.func78 (by kernel_rfl) rfl) HST.out (fun h k => h.trans k) (fun W l o o' hl ho hc _ => KC.putObj W l o o' (by omega) ho hc) (Below.refl _ _) (fun _ => rfl)
    (GatI w) (fun _ _ _ => False) HOWN.out (fun _ _ _ _ _ hs _ _ => hs.elim) HG0.out
    (fun x => { tmps := #[.string ⟨s.toArray⟩, undef, .map none, .pointer (some ⟨w.heap.size + 1, 0, none⟩), .pointer (some ⟨w.heap.size + 1 + 1, 0, none⟩), .int .i64 (x.1.1 : Int), .string ⟨x.1.2.toArray⟩, undef, undef, undef, undef, .map (some w.heap.size), .string ⟨s.toArray⟩, .func (.func 78) #[] #[.pointer (some ⟨w.heap.size + 1 + 1 + 1, 0, none⟩)], .int .i64 (x.1.1 : Int), .string ⟨x.1.2.toArray⟩, undef, undef, undef, undef, undef, undef, undef, undef, undef, undef, undef, undef, undef, undef, undef, undef, undef, undef, undef, undef, undef, undef, undef], defers := [] }) ?assign ?body ?done ?stop
  case assign =>
    intro l x W K hK
    unfold encX
    gi_wp2
    exact hK
  case body =>
    rintro lp pre ⟨⟨i, sd⟩, hx1, hx2, hx3⟩ W ⟨⟨n, hn0, hlab⟩, hbm, ⟨t, ht, hpl⟩, hbel⟩ hlt
    have hlt' : pre.length < 6000 := Nat.lt_of_lt_of_le hlt HNM.out
    have hx1' : i ≤ 100000 := hx1.2
    have hx2' : sd.length ≤ 5000 := hx2
    have HLN := Lib.hid (labelName_any sd W (by omega))
    have hle := labelF_eq sd
    have hpn := placeN_le (vals pre) 0
    rw [vals_len] at hpn
    obtain ⟨pl, hplq⟩ : ∃ pl, placeN (vals pre) 0 = pl := ⟨_, rfl⟩
    rw [hplq] at hpl hpn
    have hvs := vals_snoc pre ⟨(i, sd), hx1, hx2, hx3⟩
    have cm := hbm.cell 0
    have cm : W.cell? ⟨w.heap.size + 1, 0, none⟩ = some (.map (some w.heap.size)) := cm
    have cp : W.cell? ⟨w.heap.size + 1 + 1, 0, none⟩ = some (.int .i64 (pl : Int)) := by simp [World.cell?, hpl]
    have fp : W.frozen? ⟨w.heap.size + 1 + 1, 0, none⟩ = false := by simp [World.frozen?, hpl]
    have HLAB := Lib.hid hlab
    have HBM := Lib.hid hbm
    have HPL := Lib.hid hpl
    have HBE := Lib.hid hbel
    have HT := Lib.hid ht
    have HVS := Lib.hid hvs
    have HPQ := Lib.hid hplq
    cases hlb : labelB sd with
    | false =>
      rw [hlb] at HLN hle
      rw [if_neg (by decide)] at hle
      have HLE := Lib.hid hle
      have hw4 : IntKind.i64.wrap ((pl : Int) + 4) = (pl : Int) + 4 := by rw [IntKind.wrap_i64]; omega
      clear hlab hbm hpl hbel ht hvs hplq hle hlb hlt hx1' hx2'
      gi_wp2_with (refine ⟨trivial, ?_⟩; gi_at_call 42; refine (CallsIn.inRound lp (callsIn_wide.2 HLN.out)).mono ?_; rintro e w' ⟨rfl, rfl⟩)
      refine ⟨(KeepsOthers.setCell _ _ _).from _, KC.set W (w.heap.size + 2) 0 _ (by omega) rfl, ⟨n, by rw [List.length_append]; omega, ?_⟩, HBM.out.other (by show w.heap.size + 1 ≠ w.heap.size + 2; omega), ⟨t, HT.out, ?_⟩, HBE.out.setCell (by show w.heap.size ≤ w.heap.size + 2; omega) _⟩
      · rw [HVS.out, lookN_no i HLE.out]
        exact HLAB.out.set (by show w.heap.size ≠ w.heap.size + 2; omega) _
      · have h := heap_set HPL.out 0 (.int .i64 ((pl : Int) + 4))
        rw [HVS.out, placeN_snoc, HPQ.out, HLE.out]
        exact h
    | true =>
      rw [hlb] at HLN hle
      rw [if_pos rfl] at hle
      have hol := Lib.trimSuffix_le sd [58]
      obtain ⟨o, ho⟩ : ∃ o, Lib.trimSuffix sd [58] = o := ⟨_, rfl⟩
      rw [ho] at HLN hle hol
      have HLE := Lib.hid hle
      obtain ⟨k1, -⟩ := hlab.look o (by omega)
      obtain ⟨y, hy⟩ : ∃ y, lookN o (vals pre) 0 = y := ⟨_, rfl⟩
      rw [hy] at k1
      have HY := Lib.hid hy
      have hxi : i ≤ 100000 := hx1.2
      cases y with
      | some y =>
        obtain ⟨y1, y2⟩ := y
        unfold labV at k1
        simp only [Option.getD_some, Option.isSome_some] at k1
        clear hlab hbm hpl hbel ht hvs hplq hle hlb hlt hx1' hx2' hol ho hy
        gi_wp2_with (refine ⟨trivial, ?_⟩; gi_at_call 42; refine (CallsIn.inRound lp (callsIn_wide.2 HLN.out)).mono ?_; rintro e w' ⟨rfl, rfl⟩)
        have hb9 : Below W.heap.size W (W.alloc (.cells #[.int .i64 y1, .int .i64 y2] 68)) := bAlloc (Below.refl _ _) _
        refine ⟨(KeepsOthers.alloc _ _).from _, KC.of_below hb9 HBE.out.size, ⟨n, by rw [List.length_append]; omega, ?_⟩, boxN_alloc HBM.out _, ⟨t, HT.out, ?_⟩, HBE.out.trans (hb9.mono HBE.out.size)⟩
        · rw [HVS.out, lookN_again i HLE.out _ (by rw [HY.out]; rfl)]
          exact HLAB.out.below hb9
        · rw [HVS.out, placeN_snoc, HPQ.out, HLE.out]
          exact (hb9.block _ (Array.getElem?_eq_some_iff.1 HPL.out).1).trans HPL.out
      | none =>
        unfold labV at k1
        simp only [Option.getD_none, Option.isSome_none] at k1
        have hb9 : Below W.heap.size W (W.alloc (.cells #[.int .i64 0, .int .i64 0] 68)) := bAlloc (Below.refl _ _) _
        have cm9 := (hb9.cell (heap_lt_of_cell cm)).trans cm
        have cp9 := (hb9.cell (heap_lt_of_cell cp)).trans cp
        have HG10 : Hid (W.heap.size ≤ W.heap.size) := Lib.hid (Nat.le_refl _)
        obtain ⟨W10, k2, hlab10, hg10⟩ := (hlab.below (bAlloc (Below.refl _ _) (.cells #[.int .i64 0, .int .i64 0] 68))).put o (by omega) (by omega) (i, pl)
        unfold labV at k2
        have HL10 := Lib.hid hlab10
        have HG10 := Lib.hid hg10
        clear hlab hbm hpl hbel ht hvs hplq hle hlb hlt hx1' hx2' hol ho hy hb9 hlab10 hg10 cm cp fp
        have cm : W.cell? ⟨w.heap.size + 1, 0, none⟩ = some (.map (some w.heap.size)) := HBM.out.cell 0
        gi_wp2_with (refine ⟨trivial, ?_⟩; gi_at_call 42; refine (CallsIn.inRound lp (callsIn_wide.2 HLN.out)).mono ?_; rintro e w' ⟨rfl, rfl⟩)
        have hb9 : Below W.heap.size W (W.alloc (.cells #[.int .i64 0, .int .i64 0] 68)) := bAlloc (Below.refl _ _) _
        have hl9 := HLAB.out.below hb9
        have hsW := HBE.out.size
        have hlt9 : w.heap.size < (W.alloc (.cells #[.int .i64 0, .int .i64 0] 68)).heap.size := hl9.lt
        have hpl9 := (hb9.block _ (Array.getElem?_eq_some_iff.1 HPL.out).1).trans HPL.out
        refine ⟨((KeepsOthers.alloc _ _).from _).trans (KeepsFrom.of_grownBy HG10.out (fun j e => by cases e; omega)), (KC.of_below hb9 hsW).trans (KC.grown HG10.out hl9.isMap (Nat.le_refl _) (Nat.le_of_lt hlt9)), ⟨n + 1, by rw [List.length_append]; show n + 1 ≤ pre.length + 1; omega, ?_⟩, (boxN_alloc HBM.out _).grown HG10.out (by simp), ⟨t, HT.out, ?_⟩, (HBE.out.trans (hb9.mono hsW)).grown HG10.out (Nat.le_of_lt hlt9) (fun k e => by cases e; exact Nat.le_refl _)⟩
        · rw [HVS.out, lookN_new i HLE.out _ HY.out, HPQ.out]
          exact HL10.out
        · rw [HVS.out, placeN_snoc, HPQ.out, HLE.out]
          exact (HG10.out.block _ (Array.getElem?_eq_some_iff.1 hpl9).1 (by simp)).trans hpl9
  case done =>
    rintro D ys W hD rfl ⟨⟨n, h0, h1⟩, h2, -, h4⟩ hKD
    have c := h2.cell 0
    have c : W.cell? ⟨w.heap.size + 1, 0, none⟩ = some (.map (some w.heap.size)) := c
    have H1 := Lib.hid h1
    have H4 := Lib.hid h4
    have HKD := Lib.hid hKD
    clear h0 h1 h2 h4 hKD
    go_wp2_with fail
    refine ⟨by simp, .inl ⟨D, _, rfl, run_takeDeferred HKD.out, ?_⟩⟩
    refine leaves_plain (v := .map (some w.heap.size)) (by simp [results, Tryz.results40, go_sem]) ⟨rfl, ⟨n, H1.out.kept (grownBy_putObj' W D (.deferred none)) (fun e => by cases e; omega)⟩, H4.out.grown (grownBy_putObj' W D (.deferred none)) H4.out.size (fun k e => by cases e; omega)⟩
  case stop =>
    rintro D c pre W hD _ hf _
    exact hf.elim
end Go.Proofs.YtdpmihlmfephiaaGreatDoor

namespace Go.Proofs.YtdpmihlmfephiaaGreatDoor
set_option linter.unusedVariables false
set_option linter.unusedSimpArgs false
open Go.Joins Go.ChangeShapes Go.WideShapes Go.ChangeAt Go.RowKit Go.Deep Go.Shelf
attribute [local go_sem] Oper.semAt_some

theorem split_no (s : List UInt8) (w : World) (hn : NA w) (hl : s.length < 1000000) (h : aimF s = none) :
    Calls Tryz.prog 82 #[.string ⟨s.toArray⟩] w fun e w' => ∃ a b : List UInt8, e = .returned (.tuple #[.string ⟨a.toArray⟩, .string ⟨b.toArray⟩, .bool false]) ∧ Below w.heap.size w w' := by
  refine (splitName_any s w hn hl).mono ?_
  rintro e w' ⟨a, b, c, rfl, hc, -, hb⟩
  rw [h] at hc
  obtain rfl : c = false := hc
  exact ⟨a, b, rfl, hb⟩
theorem split_yes (s a b : List UInt8) (w : World) (hn : NA w) (hl : s.length < 1000000) (h : aimF s = some (a, b)) :
    Calls Tryz.prog 82 #[.string ⟨s.toArray⟩] w fun e w' => e = .returned (.tuple #[.string ⟨a.toArray⟩, .string ⟨b.toArray⟩, .bool true]) ∧ Below w.heap.size w w' := by
  refine (splitName_any s w hn hl).mono ?_
  rintro e w' ⟨a', b', c, rfl, hc, hy, hb⟩
  rw [h] at hc
  obtain rfl : c = true := hc
  obtain ⟨e1, e2⟩ := hy _ h
  have e1 : a' = a := e1
  have e2 : b' = b := e2
  rw [e1, e2]
  exact ⟨rfl, hb⟩
theorem aim_le {s a b : List UInt8} (h : aimF s = some (a, b)) : a.length ≤ s.length ∧ b.length ≤ s.length := by
  unfold aimF at h
  split at h
  · split at h
    · cases h
    · split at h
      · cases h
        exact ⟨by rw [List.length_take]; omega, by rw [List.length_drop]; omega⟩
      · cases h
  · cases h
def asmW (x : Int ⊕ Nat) : Nat := match x with
  | .inl _ => 0
  | .inr v => v
def asmE (x : Int ⊕ Nat) : Int := match x with
  | .inl e => e
  | .inr _ => 0
theorem par_none {s : List UInt8} (h : parF s = none) : parV s = insV 0 ⟨0, 0, 0, 0⟩ ∧ parE s = 50 := by unfold parV parE; rw [h]; exact ⟨rfl, rfl⟩
theorem par_some {s : List UInt8} {op : Int} {x : Ins} (h : parF s = some (op, x)) : parV s = insV op x ∧ parE s = 0 := by unfold parV parE; rw [h]; exact ⟨rfl, rfl⟩
theorem encode_par {s : List UInt8} {op rd rs1 rs2 n : Int} (h : parF s = some (op, ⟨rd, rs1, rs2, n⟩)) (w : World) (hn : NA w) :
    Calls Tryz.prog 27 #[.agg #[.int .i64 op, .int .i64 rd, .int .i64 rs1, .int .i64 rs2, .int .i64 n]] w fun e w' => e = .returned (.tuple #[.int .u32 ((encO (op, ⟨rd, rs1, rs2, n⟩) : Nat) : Int), .int .i64 0]) ∧ Below w.heap.size w w' := by
  obtain ⟨hok, -⟩ := (parF_iff _ _ _).1 h
  obtain ⟨h1, h2, h3, h4⟩ := okI_parts hok
  have hi := immB_in h4
  have hr : rightB op rd rs1 rs2 n = true := hok
  have := encode_any op rd rs1 rs2 n w hn.nt ⟨by simp only at hi; omega, by simp only at hi; omega⟩
  unfold encR encE at this
  rw [hr, if_pos rfl, if_pos rfl] at this
  exact this
set_option maxRecDepth 100000 in
set_option maxHeartbeats 2000000 in
theorem assemble_any (s : List UInt8) (place : Nat) (all : List (Nat × List UInt8)) (mb k : Nat) (w : World) (hn : NA w) (hl : s.length ≤ 5000) (hp : place ≤ 100000) (hm : LabAt w mb k (fun nm => lookN nm all 0)) (hpl : ∀ nm y, lookN nm all 0 = some y → y.2 ≤ 100000) :
    Calls Tryz.prog 43 #[.string ⟨s.toArray⟩, .int .i64 (place : Int), .map (some mb)] w fun e w' => e = .returned (.tuple #[.int .u32 ((asmW (asmN all s place) : Nat) : Int), .int .i64 (asmE (asmN all s place))]) ∧ Below w.heap.size w w' := by
  have HNM := Lib.hid hn
  cases ha : aimF s with
  | none =>
    have HSP := Lib.hid (split_no s w hn (by omega) ha)
    have HPS := Lib.hid (fun W (hW : NA W) => parse_any s W hW (by omega))
    cases hq : parF s with
    | none =>
      have hr : asmN all s place = .inl 50 := by unfold asmN; rw [ha]; simp only [hq]
      rw [hr, (par_none hq).1, (par_none hq).2] at *
      unfold asmW asmE
      unfold insV at HPS
      simp only [] at HPS
      clear hn hl hp hm hpl ha hq hr
      go_enter Tryz.func43, Tryz.ntmps43
      go_wp2_with (first
        | (go_at_call 82; refine HSP.out.mono ?_; rintro e w1 ⟨a, b, rfl, hb⟩; have HB1 := Lib.hid hb; have HN1 := Lib.hid (HNM.out.on hb); clear hb)
        | (go_at_call 15; refine (HPS.out _ HN1.out).mono ?_; rintro e w2 ⟨rfl, hb⟩; have HB2 := Lib.hid (HB1.out.trans (hb.mono HB1.out.size)); have HN2 := Lib.hid (HN1.out.on hb); clear hb))
      go_ret2
      exact ⟨rfl, bAlloc HB2.out _⟩
    | some y =>
      obtain ⟨op, rd, rs1, rs2, n⟩ := y
      have HEN := Lib.hid (encode_par hq)
      have hr : asmN all s place = .inr (encO (op, ⟨rd, rs1, rs2, n⟩)) := by unfold asmN; rw [ha]; simp only [hq]
      rw [hr, (par_some hq).1, (par_some hq).2] at *
      unfold asmW asmE
      unfold insV at HPS
      simp only [] at HPS ⊢
      generalize encO (op, ⟨rd, rs1, rs2, n⟩) = en at *
      clear hn hl hp hm hpl ha hq hr
      go_enter Tryz.func43, Tryz.ntmps43
      go_wp2_with (first
        | (go_at_call 82; refine HSP.out.mono ?_; rintro e w1 ⟨a, b, rfl, hb⟩; have HB1 := Lib.hid hb; have HN1 := Lib.hid (HNM.out.on hb); clear hb)
        | (go_at_call 15; refine (HPS.out _ HN1.out).mono ?_; rintro e w2 ⟨rfl, hb⟩; have HB2 := Lib.hid (HB1.out.trans (hb.mono HB1.out.size)); have HN2 := Lib.hid (HN1.out.on hb); clear hb)
        | (go_at_call 27; refine (HEN.out _ (HN2.out.alloc _)).mono ?_; rintro e w3 ⟨rfl, hb⟩; have HB3 := Lib.hid (HB2.out.trans (((bAlloc (Below.refl _ _) _).trans (hb.mono (Nat.le_of_lt (by simp)))).mono HB2.out.size)); clear hb))
      go_ret2
      exact ⟨rfl, HB3.out⟩
  | some y =>
    obtain ⟨h, nm⟩ := y
    obtain ⟨l1, l2⟩ := aim_le ha
    have HSP := Lib.hid (split_yes s h nm w hn (by omega) ha)
    have hz0 := add_l h [48] (h ++ [48]) rfl (by omega) (by decide)
    have HP0 := Lib.hid (fun W (hW : NA W) => parse_any (h ++ [48]) W hW (by rw [List.length_append]; simp; omega))
    cases hq : parF (h ++ [48]) with
    | none =>
      have hr : asmN all s place = .inl 50 := by unfold asmN; rw [ha]; simp only [hq]; rfl
      rw [hr]
      rw [(par_none hq).1, (par_none hq).2] at HP0
      unfold asmW asmE
      unfold insV at HP0
      simp only [] at HP0 ⊢
      generalize h ++ [48] = z0 at *
      clear hn hl hp hm hpl ha hq hr
      go_enter Tryz.func43, Tryz.ntmps43
      go_wp2_with (first
        | (go_at_call 82; refine HSP.out.mono ?_; rintro e w1 ⟨rfl, hb⟩; have HB1 := Lib.hid hb; have HN1 := Lib.hid (HNM.out.on hb); clear hb)
        | (go_at_call 15; refine (HP0.out _ HN1.out).mono ?_; rintro e w2 ⟨rfl, hb⟩; have HB2 := Lib.hid (HB1.out.trans (hb.mono HB1.out.size)); have HN2 := Lib.hid (HN1.out.on hb); clear hb))
      go_ret2
      exact ⟨rfl, bAlloc HB2.out _⟩
    | some y =>
      obtain ⟨op0, rd0, r10, r20, n0⟩ := y
      rw [(par_some hq).1, (par_some hq).2] at HP0
      unfold insV at HP0
      simp only [] at HP0
      have HLK := Lib.hid (fun W (hb : Below w.heap.size w W) => ((hm.below hb).look nm (by omega)).1)
      cases hy : lookN nm all 0 with
      | none =>
        have hr : asmN all s place = .inl 51 := by unfold asmN; rw [ha]; simp only [hq, hy]; rfl
        rw [hr]
        rw [hy] at HLK
        unfold labV at HLK
        simp only [Option.getD_none, Option.isSome_none] at HLK
        unfold asmW asmE
        simp only []
        generalize h ++ [48] = z0 at *
        clear hn hl hp hm hpl ha hq hr hy
        go_enter Tryz.func43, Tryz.ntmps43
        go_wp2_with (first
        | (go_at_call 82; refine HSP.out.mono ?_; rintro e w1 ⟨rfl, hb⟩; have HB1 := Lib.hid hb; have HN1 := Lib.hid (HNM.out.on hb); clear hb)
        | (go_at_call 15; refine (HP0.out _ HN1.out).mono ?_; rintro e w2 ⟨rfl, hb⟩; have HB2 := Lib.hid (HB1.out.trans (hb.mono HB1.out.size)); have HN2 := Lib.hid (HN1.out.on hb); have k1 := HLK.out (w2.alloc (.cells #[.int .i64 op0, .int .i64 rd0, .int .i64 r10, .int .i64 r20, .int .i64 n0] 23)) (bAlloc HB2.out _); clear hb))
        go_ret2
        exact ⟨rfl, bAlloc (bAlloc HB2.out _) _⟩
      | some y =>
        obtain ⟨ln, t⟩ := y
        have ht := hpl nm _ hy
        simp only [] at ht
        rw [hy] at HLK
        unfold labV at HLK
        simp only [Option.getD_some, Option.isSome_some] at HLK
        have hw : IntKind.i64.wrap ((t : Int) - (place : Int)) = (t : Int) - (place : Int) := by rw [IntKind.wrap_i64]; omega
        obtain ⟨d, hd⟩ : ∃ d, (t : Int) - (place : Int) = d := ⟨_, rfl⟩
        have HI := Lib.hid (fun W (hW : NA W) => itoa_any d W hW (by omega) (by omega))
        have hil := Lib.itoa_length_le d (by omega) (by omega)
        have hz1 := add_l h (Lib.itoa d) (h ++ Lib.itoa d) rfl (by omega) (by omega)
        have HP1 := Lib.hid (fun W (hW : NA W) => parse_any (h ++ Lib.itoa d) W hW (by rw [List.length_append]; omega))
        rw [hd] at hw
        cases hq1 : parF (h ++ Lib.itoa d) with
        | none =>
          have hr : asmN all s place = .inl 50 := by unfold asmN; rw [ha]; simp only [hq, hy, hd, hq1]; rfl
          rw [hr]
          rw [(par_none hq1).1, (par_none hq1).2] at HP1
          unfold asmW asmE
          unfold insV at HP1
          simp only [] at HP1 ⊢
          have HD := Lib.hid hd
          generalize h ++ [48] = z0 at *
          generalize h ++ Lib.itoa d = z1 at *
          clear hn hl hp hm hpl ha hq hr hy hq1 hil ht
          go_enter Tryz.func43, Tryz.ntmps43
          go_wp2_with (first
        | (go_at_call 82; refine HSP.out.mono ?_; rintro e w1 ⟨rfl, hb⟩; have HB1 := Lib.hid hb; have HN1 := Lib.hid (HNM.out.on hb); clear hb)
        | (go_at_call 15; refine (HP1.out _ HN3.out).mono ?_; rintro e w4 ⟨rfl, hb⟩; have HB4 := Lib.hid (HB3.out.trans (hb.mono HB3.out.size)); have HN4 := Lib.hid (HN3.out.on hb); clear hb)
        | (go_at_call 15; refine (HP0.out _ HN1.out).mono ?_; rintro e w2 ⟨rfl, hb⟩; have HB2 := Lib.hid (HB1.out.trans (hb.mono HB1.out.size)); have HN2 := Lib.hid (HN1.out.on hb); have k1 := HLK.out (w2.alloc (.cells #[.int .i64 op0, .int .i64 rd0, .int .i64 r10, .int .i64 r20, .int .i64 n0] 23)) (bAlloc HB2.out _); clear hb)
        | (go_at_call 83; refine (HI.out _ ((HN2.out.alloc _).alloc _)).mono ?_; rintro e w3 ⟨rfl, hb⟩; have hb2 := (bAlloc (bAlloc (Below.refl w2.heap.size w2) _) _).trans (hb.mono (by simp; omega)); have HB3 := Lib.hid (HB2.out.trans (hb2.mono HB2.out.size)); have HN3 := Lib.hid (HN2.out.on hb2); clear hb hb2))
          go_ret2
          exact ⟨rfl, bAlloc HB4.out _⟩
        | some y =>
          obtain ⟨op, rd, rs1, rs2, n⟩ := y
          have HEN := Lib.hid (encode_par hq1)
          have hr : asmN all s place = .inr (encO (op, ⟨rd, rs1, rs2, n⟩)) := by unfold asmN; rw [ha]; simp only [hq, hy, hd, hq1]; rfl
          rw [hr]
          rw [(par_some hq1).1, (par_some hq1).2] at HP1
          unfold asmW asmE
          unfold insV at HP1
          simp only [] at HP1 ⊢
          generalize encO (op, ⟨rd, rs1, rs2, n⟩) = en at *
          have HD := Lib.hid hd
          generalize h ++ [48] = z0 at *
          generalize h ++ Lib.itoa d = z1 at *
          clear hn hl hp hm hpl ha hq hr hy hq1 hil ht
          go_enter Tryz.func43, Tryz.ntmps43
          go_wp2_with (first
        | (go_at_call 82; refine HSP.out.mono ?_; rintro e w1 ⟨rfl, hb⟩; have HB1 := Lib.hid hb; have HN1 := Lib.hid (HNM.out.on hb); clear hb)
        | (go_at_call 15; refine (HP1.out _ HN3.out).mono ?_; rintro e w4 ⟨rfl, hb⟩; have HB4 := Lib.hid (HB3.out.trans (hb.mono HB3.out.size)); have HN4 := Lib.hid (HN3.out.on hb); clear hb)
        | (go_at_call 15; refine (HP0.out _ HN1.out).mono ?_; rintro e w2 ⟨rfl, hb⟩; have HB2 := Lib.hid (HB1.out.trans (hb.mono HB1.out.size)); have HN2 := Lib.hid (HN1.out.on hb); have k1 := HLK.out (w2.alloc (.cells #[.int .i64 op0, .int .i64 rd0, .int .i64 r10, .int .i64 r20, .int .i64 n0] 23)) (bAlloc HB2.out _); clear hb)
        | (go_at_call 83; refine (HI.out _ ((HN2.out.alloc _).alloc _)).mono ?_; rintro e w3 ⟨rfl, hb⟩; have hb2 := (bAlloc (bAlloc (Below.refl w2.heap.size w2) _) _).trans (hb.mono (by simp; omega)); have HB3 := Lib.hid (HB2.out.trans (hb2.mono HB2.out.size)); have HN3 := Lib.hid (HN2.out.on hb2); clear hb hb2)
        | (go_at_call 27; refine (HEN.out _ (HN4.out.alloc _)).mono ?_; rintro e w5 ⟨rfl, hb⟩; have HB5 := Lib.hid (HB4.out.trans (((bAlloc (Below.refl _ _) _).trans (hb.mono (Nat.le_of_lt (by simp)))).mono HB4.out.size)); clear hb))
          go_ret2
          exact ⟨rfl, HB5.out⟩
end Go.Proofs.YtdpmihlmfephiaaGreatDoor

