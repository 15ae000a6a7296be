/- Who uses an object, by the chapter's example: contracts. -/
import Derived.Test.YthammjpadbbflaaPlE
import Derived.Test.YthammjpadbbflaaPlF
import Derived.Ground.NamesProg
import Derived.Shelf.Lay
import Derived.Shelf.Sort.Plain
import Derived.Sort.OwnSortedInts
namespace Go.Proofs.Ythammjpadbbflaa
set_option linter.unusedVariables false
set_option linter.unusedSimpArgs false
open Go.Proofs Go.Shelf
shelf_lay Lays.n189 Nm 189 at Try as Lk.lays189
end Go.Proofs.Ythammjpadbbflaa
namespace Go.Proofs.Ythammjpadbbflaa
open Go.Joins Go.ChangeShapes Go.WideShapes Go.ChangeAt Go.RowKit Go.Deep Go.Sort Go.Shelf

theorem quiet_bel {w w' : World} (h : Quiet w w') : Below w.heap.size w w' := by
  obtain ⟨n, rfl⟩ := h
  exact ⟨rfl, rfl, rfl, Nat.le_refl _, fun _ _ => rfl⟩
theorem sort1_any (B : Nat) (a : Option Addr) (c : Nat) (x : Int) (w : World) (ho : w.ownsRow B 3 1 (.slice a 1 c) 1 (i64s [x])) :
    Calls Try.prog 45 #[.slice a 1 c] w fun e w' => e = .returned (.tuple #[]) ∧ w'.ownsRow B 3 1 (.slice a 1 c) 1 (i64s [x]) ∧ w.grownBy w' (Value.slice a 1 c).ownBlock := by
  rcases ho.2 with ⟨h1, h2⟩ | ⟨g, cap, cur, h1, hB, hh, hnc, hcm, hcs, ht⟩
  · omega
  · cases h1
    have hgl : g < w.heap.size := (Array.getElem?_eq_some_iff.1 hh).1
    have hH : Holds (Value.int .i64) w g 0 [x].toArray := holds_of_blockI hh ht
    refine (Any.slices_Sort_int Lk.lays189 g 0 c [x] w hH hgl (by simp)).mono ?_
    rintro e w' ⟨rfl, n, os, rfl⟩
    rw [List.mergeSort_singleton]
    refine ⟨rfl, ⟨by simp [i64s], .inr ⟨g, c, _, rfl, hB, heap_sortedI (n := n) (os := os) [x].toArray hh, hnc, hcm, by simp [putCells, hcs], ?_⟩⟩, grownBy_sortedI [x].toArray⟩
    exact take_putCellsI cur [x] (by rw [hcs]; simp; omega)
set_option maxHeartbeats 1000000 in
set_option maxRecDepth 100000 in
theorem compact1_any (a : Option Addr) (c : Nat) (w : World) :
    Calls Try.prog 46 #[.slice a 1 c] w fun e w' => e = .returned (.slice a 1 c) ∧ w' = w := by
  go_enter Try.func46, Try.ntmps46
  go_wp2_with fail
  go_ret
  exact ⟨rfl, rfl⟩
set_option maxHeartbeats 1000000 in
set_option maxRecDepth 100000 in
theorem clo_ex (cb : Nat) (w : World) (hc : w.cell? ⟨cb, 0, none⟩ = some (.int .i64 1)) :
    Calls Try.prog 44 #[.agg #[.int .i64 0, .int .i64 0, .int .i64 1, .int .i64 0], .pointer (some ⟨cb, 0, none⟩)] w fun e w' => e = .returned (.tuple #[.int .i64 0, .bool true]) ∧ Below w.heap.size w w' := by
  have hcl := heap_lt_of_cell hc
  go_enter Try.func44, Try.ntmps44
  go_wp2_with fail
  go_quiet (fail)
  go_wp2_with fail
  go_ret2
  exact ⟨rfl, (bAlloc (Below.refl _ _) _).trans ⟨rfl, rfl, rfl, Nat.le_refl _, fun _ _ => rfl⟩⟩
set_option maxHeartbeats 1000000 in
set_option maxRecDepth 100000 in
theorem pick_ex (a : Option Addr) (c cb : Nat) (w : World) (hr : RdK w a [⟨0, 0, 1, 0⟩]) (hc : w.cell? ⟨cb, 0, none⟩ = some (.int .i64 1)) :
    Calls Try.prog 43 #[.slice a 1 c, .func (.func 44) #[] #[.pointer (some ⟨cb, 0, none⟩)]] w fun e w' => ∃ a' c', e = .returned (.slice a' 1 c') ∧ w'.ownsRow w.heap.size 3 1 (.slice a' 1 c') 1 (i64s [0]) ∧ Below w.heap.size w w' := by
  obtain ⟨i0, hi1, hi2, hi3, hi4⟩ := info_parts infoInt
  have HR := Lib.hid hr
  have HC := Lib.hid hc
  clear hr hc
  go_enter Try.func43, Try.ntmps43
  go_wp2_with fail
  go_loopw [5, 12] (fun v i wr => ∃ (k : Nat) (a5 : Option Addr) (c5 : Nat), v = .slice a5 k c5 ∧ i = .int .i64 k ∧ k ≤ 1 ∧ Hid (wr.ownsRow w.heap.size 3 1 (.slice a5 k c5) k (i64s (List.replicate k 0))) ∧ Hid (Below w.heap.size w wr)) (fun _ i _ => 1 - (intOf i).toNat)
  case atStart => exact ⟨0, none, 0, rfl, rfl, by omega, Lib.hid (World.ownsRow_nil _ _ _ _), Lib.hid (Below.refl _ _)⟩
  case round =>
    obtain ⟨k, a5, c5, rfl, rfl, hk, HO, HB⟩ := hrel
    by_cases hlt : k < 1
    · obtain rfl : k = 0 := by omega
      obtain ⟨g1, f1, hg1, -, p0, p1, p2, p3⟩ := (HR.out.below HB.out).at_ (k := 0) (by simp)
      subst hg1
      simp only [List.getElem_cons_zero, Nat.zero_mul, Nat.add_zero] at p0 p1 p2 p3
      have hsz := HB.out.size
      have HCL := Lib.hid (fun W (hW : Below wr.heap.size wr W) => clo_ex cb W ((hW.cell (heap_lt_of_cell ((HB.out.cell (heap_lt_of_cell HC.out)).trans HC.out))).trans ((HB.out.cell (heap_lt_of_cell HC.out)).trans HC.out)))
      go_wp2_with fail
      refine (HCL.out _ (bAlloc (Below.refl _ _) _)).mono ?_; rintro e w2 ⟨rfl, hb2⟩
      have HB2 := Lib.hid (bTrans (bAlloc HB.out (.cells #[.int .i64 0, .int .i64 0, .int .i64 1, .int .i64 0] 51)) hb2)
      have HO2 := Lib.hid (own_below HO.out (bTrans (bAlloc (Below.refl wr.heap.size wr) (.cells #[.int .i64 0, .int .i64 0, .int .i64 1, .int .i64 0] 51)) hb2))
      have hsz2 := HB2.out.size
      clear hb2 p0 p1 p2 p3 HO HB
      go_wp2_with (at_builtin; refine wpList_app _ rfl _ _ rfl w.heap.size (.slice a5 0 c5) 0 [] rfl (HO2.out.alloc _) _ 1 1 [0] rfl (rd_one _ 0 3) (by omega) (by simp; omega) ?_; intro a8 c8 w8 hown8 hgrow8 hat8; have HO8 := Lib.hid hown8; have HG8 := Lib.hid hgrow8; clear hown8 hgrow8 hat8)
      go_roundw
      case rel =>
        refine ⟨1, a8, c8, rfl, by go_num, by omega, HO8, Lib.hid ?_⟩
        exact (bAlloc HB2.out _).grown HG8.out (by simp; omega) (fun r hr => (HO2.out.lt r hr).1)
      case measure => simp [intOf]
    · obtain rfl : k = 1 := by omega
      go_wp2_with fail
      go_ret
      exact ⟨a5, c5, rfl, HO.out, HB.out⟩
set_option maxHeartbeats 1000000 in
set_option maxRecDepth 100000 in
theorem users_ex (a : Option Addr) (c : Nat) (w : World) (hr : RdK w a [⟨0, 0, 1, 0⟩]) :
    Calls Try.prog 37 #[.slice a 1 c, .int .i64 1] w fun e w' => ∃ a' c', e = .returned (.slice a' 1 c') ∧ Rd w' a' 1 (i64s [0]) ∧ Below w.heap.size w w' := by
  have HR := Lib.hid (fun W (hW : Below w.heap.size w W) => hr.below hW)
  clear hr
  go_enter Try.func37, Try.ntmps37
  go_wp2_with fail
  refine (pick_ex a c w.heap.size _ (HR.out _ (bAlloc (Below.refl _ _) _)) ((BoxN.new w #[.int .i64 1] 3).cell 0)).mono ?_; rintro e w1 ⟨a1, c1, rfl, ho1, hb1⟩
  have HO1 := Lib.hid ho1
  have HB1 := Lib.hid (bTrans (bAlloc (Below.refl w.heap.size w) (.cells #[.int .i64 1] 3)) hb1)
  have hsz := hb1.size
  rw [size_alloc] at hsz
  clear ho1 hb1
  go_wp2_with fail
  refine (sort1_any _ a1 c1 0 _ HO1.out).mono ?_; rintro e w2 ⟨rfl, ho2, hg2⟩
  have HO2 := Lib.hid ho2
  have HB2 := Lib.hid (HB1.out.grown hg2 (by have := HB1.out.size; omega) (fun r hr => by have := (HO1.out.lt r hr).1; rw [size_alloc] at this; omega))
  clear ho2 hg2
  go_wp2_with fail
  refine (compact1_any a1 c1 _).mono ?_; rintro e w3 ⟨rfl, rfl⟩
  go_wp2_with fail
  go_ret
  exact ⟨a1, c1, rfl, Rd.of_own HO2.out, HB2.out⟩
end Go.Proofs.Ythammjpadbbflaa
