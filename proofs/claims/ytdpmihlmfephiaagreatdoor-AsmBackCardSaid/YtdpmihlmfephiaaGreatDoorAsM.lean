/- The lines of a text that say something: the program's iterator. -/
import Derived.RangeFuncNested
import Derived.RangeFuncBound
import Derived.RangeFuncCalls
import Derived.RangeFuncLeaves
import Derived.Shelf.Abstract
import Derived.Shelf.RegionOpen
import Derived.WalkKit
import Derived.OwnWalkIn
import Derived.TacticsInMore
import Derived.LoopNIn
import Derived.LoopIn
import Derived.Test.YtdpmihlmfephiaaGreatDoorAsL
namespace Go.Proofs.YtdpmihlmfephiaaGreatDoor
set_option linter.unusedVariables false
set_option linter.unusedSimpArgs false
open Go.Joins Go.ChangeShapes Go.WideShapes Go.ChangeAt Go.RowKit Go.Deep Go.Shelf
attribute [local go_sem] Oper.semAt_some

/-- blocks of cells, but rows of bytes and those of S, stay; below n nothing is changed -/
structure KC (n : Nat) (S : Nat → Prop) (W W' : World) : Prop where
  below : Below n W W'
  block : ∀ b c t f, W.heap[b]? = some (.cells c t f) → t ≠ 5 → ¬ S b → W'.heap[b]? = some (.cells c t f)
theorem KC.refl (n : Nat) (S : Nat → Prop) (W : World) : KC n S W W := ⟨Below.refl _ _, fun _ _ _ _ h _ _ => h⟩
theorem KC.trans {n : Nat} {S : Nat → Prop} {A B C : World} (h : KC n S A B) (k : KC n S B C) : KC n S A C := ⟨h.below.trans k.below, fun b c t f h1 h2 h3 => k.block b c t f (h.block b c t f h1 h2 h3) h2 h3⟩
theorem KC.putObj {n : Nat} {S : Nat → Prop} (W : World) (l : Nat) (o o' : Go.Obj) (hl : n ≤ l) (ho : W.heap[l]? = some o) (hc : o.isCells = false) : KC n S W (W.putObj l o') :=
  ⟨(Below.refl n W).grown (grownBy_putObj' W l o') (by have := (Array.getElem?_eq_some_iff.1 ho).1; omega) (fun k e => by cases e; omega), fun b c t f h1 _ _ => by
    have hne : b ≠ l := fun e => by subst e; rw [ho] at h1; cases h1; cases hc
    exact (World.putObj_heap_other hne).trans h1⟩
theorem KC.of_below {n : Nat} {S : Nat → Prop} {W W' : World} (hb : Below W.heap.size W W') (hn : n ≤ W.heap.size) : KC n S W W' :=
  ⟨hb.mono hn, fun b c t f h1 _ _ => (hb.block b (Array.getElem?_eq_some_iff.1 h1).1).trans h1⟩
theorem KC.box {n : Nat} {S : Nat → Prop} {W W' : World} {B : Nat} {cs : Array Value} {t : TypeId} (h : KC n S W W') (hb : W.heap[B]? = some (.cells cs t (0, 0))) (ht : t ≠ 5) (hS : ¬ S B) : W'.heap[B]? = some (.cells cs t (0, 0)) := h.block _ _ _ _ hb ht hS
theorem grown_of_below {W W' : World} (hb : Below W.heap.size W W') : W.grownBy W' none := ⟨hb.os, hb.tape, hb.output, hb.size, fun i hi _ => hb.block i hi⟩

/-- a line that says something: its number, and what it says -/
def LX : Type := { x : Nat × List UInt8 // (1 ≤ x.1 ∧ x.1 ≤ 100000) ∧ x.2.length ≤ 5000 ∧ x.2 ≠ [] }
def mkX (i : Nat) (s : List UInt8) : Option LX := if h : (1 ≤ i ∧ i ≤ 100000) ∧ s.length ≤ 5000 ∧ s ≠ [] then some ⟨(i, s), h⟩ else none
def preX (L : List (List UInt8)) : Nat → List LX
  | 0 => []
  | k + 1 => preX L k ++ (mkX (k + 1) (cleanF (L.getD k []))).toList
theorem preX_le (L : List (List UInt8)) (j k : Nat) (h : j ≤ k) : (preX L j).length ≤ (preX L k).length := by
  induction k with
  | zero => obtain rfl : j = 0 := by omega
            exact Nat.le_refl _
  | succ k ih =>
    by_cases e : j = k + 1
    · subst e; exact Nat.le_refl _
    · have := ih (by omega)
      rw [show preX L (k + 1) = preX L k ++ (mkX (k + 1) (cleanF (L.getD k []))).toList from rfl, List.length_append]
      omega
theorem preX_pre (L : List (List UInt8)) (j k : Nat) (h : j ≤ k) : preX L j <+: preX L k := by
  induction k with
  | zero => obtain rfl : j = 0 := by omega
            exact List.prefix_refl _
  | succ k ih =>
    by_cases e : j = k + 1
    · subst e; exact List.prefix_refl _
    · exact (ih (by omega)).trans (List.prefix_append _ _)
theorem preX_len (L : List (List UInt8)) (k : Nat) : (preX L k).length ≤ k := by
  induction k with
  | zero => exact Nat.le_refl _
  | succ k ih =>
    rw [show preX L (k + 1) = preX L k ++ (mkX (k + 1) (cleanF (L.getD k []))).toList from rfl, List.length_append]
    cases mkX (k + 1) (cleanF (L.getD k [])) <;> simp <;> omega
def encX (x : LX) : Array Value := #[.int .i64 (x.1.1 : Int), .string ⟨x.1.2.toArray⟩]
theorem lines_any (s : List UInt8) (w : World) :
    Calls Tryz.prog 41 #[.string ⟨s.toArray⟩] w fun e w' => e = .returned (.func (.func 78) #[] #[.pointer (some ⟨w.heap.size, 0, none⟩)]) ∧ w' = w.alloc (.cells #[.string ⟨s.toArray⟩] 9) := by
  go_enter Tryz.func41, Tryz.ntmps41
  go_wp2_with fail
  go_ret
  exact ⟨rfl, rfl⟩
theorem trimB_le (l : List UInt8) (c : UInt8) : (Lib.trimB l c).length ≤ l.length := by
  unfold Lib.trimB Lib.trimLeftB Lib.trimRightB
  refine Nat.le_trans (List.dropWhile_sublist _).length_le ?_
  rw [List.length_reverse]
  refine Nat.le_trans (List.dropWhile_sublist _).length_le ?_
  rw [List.length_reverse]; exact Nat.le_refl _
theorem cleanF_le (l : List UInt8) : (cleanF l).length ≤ l.length := by
  unfold cleanF
  exact Nat.le_trans (trimB_le _ _) (cut_le l [59]).1
set_option maxRecDepth 100000 in
set_option maxHeartbeats 4000000 in
theorem lines1_in (n : Nat) (hn : 1 ≤ n) (l Bx : Nat) (S : Nat → Prop) (s : List UInt8) (hs : s.length ≤ 5000) (wb : World) (hna : NA wb) (J Jx : List LX → World → Prop)
    (W : World) (hbW : Below wb.heap.size wb W) (hS : ∀ b, S b → b < W.heap.size) (hJB : ∀ pre A B, J pre A → W.heap.size ≤ A.heap.size → Below A.heap.size A B → J pre B)
    (hY : ∀ pre x W1, J pre W1 → pre.length < (preX (Lib.split s [10]) (Lib.split s [10]).length).length → YieldAt Fence.wide (n - 1) Tryz.prog l (encX x) W1 fun e W' =>
      (e = .returned (.bool true) ∧ J (pre ++ [x]) W' ∧ KC wb.heap.size S W1 W') ∨ (e = .returned (.bool false) ∧ Jx (pre ++ [x]) W'))
    (h0 : W.cell? ⟨Bx, 0, none⟩ = some (.string ⟨s.toArray⟩)) (hJ0 : J [] W) :
    CallsIn Fence.wide n Tryz.prog 78 #[.func (.yield l) #[] #[], .pointer (some ⟨Bx, 0, none⟩)] W fun e W' => (∃ v, e = .returned v) ∧
      ((∃ ys, ys = preX (Lib.split s [10]) (Lib.split s [10]).length ∧ J ys W') ∨ (∃ pre, pre <+: preX (Lib.split s [10]) (Lib.split s [10]).length ∧ Jx pre W')) := by
  have HNW := Lib.hid (hna.on hbW)
  have HSP := Lib.hid (split_any s [10] W HNW.out (by omega) (by decide))
  have hle := split_le s [10]
  have hln := split_len s [10]
  have HTX := Lib.hid (TX.split W (Lib.split s [10]))
  have HBS := Lib.hid (below_split W (Lib.split s [10]))
  obtain ⟨L, hL⟩ : ∃ L, Lib.split s [10] = L := ⟨_, rfl⟩
  rw [hL] at HSP HTX HBS hle hln hY ⊢
  obtain ⟨W2, hW2⟩ : ∃ W2, splitW W L = W2 := ⟨_, rfl⟩
  have HWB : Hid (W2.heap[W.heap.size]? = some (.cells (L.map strV).toArray 9 (0, 0))) := Lib.hid (hW2 ▸ heap_alloc_new W _)
  rw [hW2] at HSP HTX HBS
  obtain ⟨m, hm⟩ : ∃ m, L.length = m := ⟨_, rfl⟩
  rw [hm] at HSP hY ⊢
  have HJB := Lib.hid hJB
  have HY := Lib.hid hY
  have HJ2 := Lib.hid (hJB [] W W2 hJ0 (Nat.le_refl _) HBS.out)
  have HB2 := Lib.hid (hbW.trans (HBS.out.mono hbW.size))
  have HS := Lib.hid hS
  have HLE := Lib.hid hle
  have hml : m ≤ 5010 := by omega
  have HNA := Lib.hid hna
  have HM := Lib.hid hm
  have HSZ := Lib.hid HBS.out.size
  clear hJB hY hJ0 hbW hS hle hln hL hW2 hna hm
  refine callsIn_of_wp Tryz.func78 rfl trivial ?_ rfl
  simp only [Tryz.ntmps78, List.size_toArray, List.length_cons, List.length_nil, Nat.reduceAdd, Nat.reduceSub, Array.replicate_succ, Array.replicate_zero, List.push_toArray, List.append_toArray, List.nil_append, List.cons_append]
  gi_wp2_with (refine ⟨trivial, ?_⟩; gi_at_call 76; refine (callsIn_wide.2 HSP.out).mono ?_; rintro e w1 ⟨rfl, rfl⟩)
  gi_loopw [11] (fun i wr => ∃ k : Nat, k ≤ m ∧ i = .int .i64 k ∧ Hid (J (preX L k) wr) ∧ Hid (wr.heap[W.heap.size]? = some (.cells (L.map strV).toArray 9 (0, 0))) ∧ Hid (Below wb.heap.size wb wr) ∧ Hid (W.heap.size ≤ wr.heap.size)) (fun i _ => m - (intOf i).toNat)
  case atStart => exact ⟨0, by omega, rfl, HJ2, HWB, HB2, HSZ⟩
  case round =>
    obtain ⟨k, hk, rfl, HJ, HC, HB, HZ⟩ := hrel
    by_cases h : k < m
    · have hkl : k < L.length := by rw [HM.out]; exact h
      have hd : decide (k < m) = true := decide_eq_true h
      have hcell : wr.cell? ⟨W.heap.size, k, none⟩ = some (.string ⟨L[k].toArray⟩) := by
        have := HC.out
        simp [World.cell?, this, strV, hkl]
      have hyl := HLE.out L[k] (List.getElem_mem hkl)
      have hgd : L.getD k [] = L[k] := by simp [hkl]
      obtain ⟨y, hy⟩ : ∃ y, L[k] = y := ⟨_, rfl⟩
      rw [hy] at hcell hyl hgd
      have HCUT := Lib.hid (cut_any y [59] wr (HNA.out.on HB.out) (by omega))
      have hcl := (cut_le y [59]).1
      have HTR := Lib.hid (fun W => trim_any (Lib.cut y [59]).1 32 W (by decide) (by omega))
      have hcf : Lib.trimB (Lib.cut y [59]).1 32 = cleanF y := rfl
      have hcy := cleanF_le y
      rw [hcf] at HTR
      obtain ⟨z, hz⟩ : ∃ z, cleanF y = z := ⟨_, rfl⟩
      rw [hz] at HTR hcy
      obtain ⟨c1, hc1⟩ : ∃ c1, (Lib.cut y [59]).1 = c1 := ⟨_, rfl⟩
      rw [hc1] at HCUT HTR
      by_cases hze : z = []
      · have hpre : preX L (k + 1) = preX L k := by
          show preX L k ++ (mkX (k + 1) (cleanF (L.getD k []))).toList = _
          rw [hgd, hz, hze]
          simp [mkX]
        have HPRE := Lib.hid hpre
        subst hze
        clear hpre hcf hcl hcy hyl hgd hy hkl hz hc1
        gi_wp2_with (first
          | (refine ⟨trivial, ?_⟩; gi_at_call 32; refine (callsIn_wide.2 HCUT.out).mono ?_; rintro e w2 ⟨rfl, hb⟩; have HD2 := Lib.hid hb; clear hb)
          | (refine ⟨trivial, ?_⟩; gi_at_call 79; refine (callsIn_wide.2 (HTR.out _)).mono ?_; rintro e w3 ⟨rfl, hb⟩; have HD3 := Lib.hid (HD2.out.trans (hb.mono HD2.out.size)); clear hb))
        refine ⟨fun _ h => (by cases h), ?_⟩
        gi_wp2
        go_roundw
        case rel => exact ⟨k + 1, by omega, by go_num, by rw [HPRE.out]; exact Lib.hid (HJB.out _ wr w3 HJ.out HZ.out HD3.out), Lib.hid ((HD3.out.block _ (Array.getElem?_eq_some_iff.1 HC.out).1).trans HC.out), Lib.hid (HB.out.trans (HD3.out.mono HB.out.size)), Lib.hid (Nat.le_trans HZ.out HD3.out.size)⟩
        case measure => simp [intOf]; omega
      · have hpz : (1 ≤ k + 1 ∧ k + 1 ≤ 100000) ∧ z.length ≤ 5000 ∧ z ≠ [] := ⟨by omega, by omega, hze⟩
        have hmk : mkX (k + 1) z = some ⟨(k + 1, z), hpz⟩ := by unfold mkX; rw [dif_pos hpz]
        obtain ⟨x, hx⟩ : ∃ x : LX, x = ⟨(k + 1, z), hpz⟩ := ⟨_, rfl⟩
        rw [← hx] at hmk
        have hpre : preX L (k + 1) = preX L k ++ [x] := by
          show preX L k ++ (mkX (k + 1) (cleanF (L.getD k []))).toList = _
          rw [hgd, hz, hmk]; rfl
        have hlt : (preX L k).length < (preX L m).length := by
          have h1 := preX_le L (k + 1) m (by omega)
          rw [hpre, List.length_append] at h1
          simp only [List.length_cons, List.length_nil] at h1
          omega
        have HPX := Lib.hid (show preX L k ++ [x] <+: preX L m from hpre ▸ preX_pre L (k + 1) m (by omega))
        have HYK := Lib.hid (fun W1 (hJ : J (preX L k) W1) => HY.out (preX L k) x W1 hJ hlt)
        have henc : encX x = #[.int .i64 ((k : Int) + 1), .string ⟨z.toArray⟩] := by rw [hx]; rfl
        rw [henc] at HYK
        have HPRE := Lib.hid hpre
        have hne1 : (z == []) = false := by simpa using hze
        have hne2 : (z != []) = true := by simpa using hze
        clear hpre hcf hcl hcy hyl hgd hy hkl hz hc1 hlt henc hmk hx hze hpz
        gi_wp2_with (first
          | (refine ⟨trivial, ?_⟩; gi_at_call 32; refine (callsIn_wide.2 HCUT.out).mono ?_; rintro e w2 ⟨rfl, hb⟩; have HD2 := Lib.hid hb; clear hb)
          | (refine ⟨trivial, ?_⟩; gi_at_call 79; refine (callsIn_wide.2 (HTR.out _)).mono ?_; rintro e w3 ⟨rfl, hb⟩; have HD3 := Lib.hid (HD2.out.trans (hb.mono HD2.out.size)); clear hb; obtain ⟨fn, tmps, assign, body, hy, hR⟩ := HYK.out w3 (HJB.out _ wr w3 HJ.out HZ.out HD3.out); have HR := Lib.hid hR; clear hR))
        refine HR.out.mono ?_
        rintro e W4 (⟨rfl, hJ4, hk4⟩ | ⟨rfl, hJx4⟩)
        · have HJ4 := Lib.hid hJ4
          have HK4 := Lib.hid hk4
          clear hJ4 hk4 hy
          gi_wp2
          go_roundw
          case rel =>
            have hc3 := (HD3.out.block _ (Array.getElem?_eq_some_iff.1 HC.out).1).trans HC.out
            refine ⟨k + 1, by omega, by go_num, by rw [HPRE.out]; exact HJ4, Lib.hid (HK4.out.box hc3 (by decide) (fun h => by have := HS.out _ h; omega)), Lib.hid ((HB.out.trans (HD3.out.mono HB.out.size)).trans HK4.out.below), Lib.hid (Nat.le_trans HZ.out (Nat.le_trans HD3.out.size HK4.out.below.size))⟩
          case measure => simp [intOf]; omega
        · clear hy
          gi_wp2
          refine bodyPost_ret (results_none rfl _ _ _) rfl ?_
          exact ⟨⟨_, rfl⟩, .inr ⟨_, HPX.out, hJx4⟩⟩
    · obtain rfl : k = m := by omega
      gi_wp2
      go_end0
      exact ⟨⟨_, rfl⟩, .inl ⟨_, rfl, HJ.out⟩⟩
end Go.Proofs.YtdpmihlmfephiaaGreatDoor
