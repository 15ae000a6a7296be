/- A capability's text. -/
import Derived.Test.YtoijhhacgafblaaDoorCapR
import Derived.Test.YtoijhhacgafblaaDoorFmt
import Derived.Deep.RegionHeld3
namespace Go.Proofs.YtoijhhacgafblaaDoor
set_option linter.unusedVariables false
set_option linter.unusedSimpArgs false
open Go.ChangeShapes Go.WideShapes Go.ChangeAt Go.RowKit

theorem boxed {w W' : World} {cs : Array Value} {t : TypeId} (h : Below (w.alloc (.cells cs t)).heap.size (w.alloc (.cells cs t)) W') (j : Nat) : W'.cell? ⟨w.heap.size, j, none⟩ = cs[j]? := by
  rw [h.cell (p := ⟨w.heap.size, j, none⟩) (by rw [size_alloc]; exact Nat.lt_succ_self _)]
  exact cell_of_row _ _ j cs t (0, 0) (heap_alloc_new w _)
theorem dec_len (u : Nat) (h : u < 18446744073709551616) : (Lib.decDigits u).length ≤ 20 := by rw [Lib.decDigits_length]; exact Lib.nDigits_le20 u h
theorem add_l (x y z : List UInt8) (hz : x ++ y = z) (hx : x.length ≤ 1000) (hy : y.length ≤ 1000) : ∀ W : World, (Op.stringOp .add ⟨x.toArray⟩ ⟨y.toArray⟩).run Tryd.prog W = .ok (.string ⟨z.toArray⟩) W :=
  fun W => by rw [← hz]; exact run_string_add_lists W x y (by omega) (by omega)
theorem itoa_any (u : Nat) (hu : u < 256) (w : World) (htab : Tab w.heap.size w) :
    Calls Tryd.prog 43 #[.int .i64 u] w fun e w' => e = .returned (.string ⟨(Lib.decDigits u).toArray⟩) ∧ Below w.heap.size w w' :=
  (Tryd.strconv_Itoa (u : Int) (by omega) (by omega) w htab.here).mono fun e w' ⟨he, k, os, hw⟩ => ⟨by rw [he, Lib.itoa_nonneg], by rw [hw]; exact Lib.below_grow _ _ (Nat.le_refl _) k os⟩

def textT (g : Bool) (b t a p : Nat) : List UInt8 := (if g then 43 else 45) :: (Lib.decDigits b ++ 46 :: 46 :: (Lib.decDigits t ++ 64 :: (Lib.decDigits a ++ 58 :: Lib.decDigits p)))
theorem text_any (cb ct ca cp : Nat) (cy : Int) (cg : Bool) (w : World) (htab : Tab w.heap.size w) (h1 : cb < 18446744073709551616) (h2 : ct < 18446744073709551616) (h3 : ca < 18446744073709551616) (h4 : cp < 256) (hy : cy < 0) :
    Calls Tryd.prog 31 #[.agg #[.int .u64 cb, .int .u64 ct, .int .u64 ca, .int .i64 cp, .int .i64 cy, .bool cg]] w fun e w' => e = .returned (.string ⟨(textT cg cb ct ca cp).toArray⟩) ∧ Below w.heap.size w w' := by
  have HT := Lib.hid htab
  have H1 := Lib.hid h1
  have H2 := Lib.hid h2
  have H3 := Lib.hid h3
  have H4 := Lib.hid h4
  clear htab h1 h2 h3 h4
  cases cg
  · go_enter Tryd.func31, Tryd.ntmps31
    go_wp2_with fail
    have l1 := dec_len cb H1.out
    have l2 := dec_len ct H2.out
    have l3 := dec_len ca H3.out
    have l4 := dec_len cp (by have := H4.out; omega)
    have k1 := add_l (Lib.decDigits cb) [46, 46] (Lib.decDigits cb ++ [46, 46]) (by simp) (by first | omega | (simp; omega)) (by first | omega | (simp; done))
    have k2 := add_l (Lib.decDigits cb ++ [46, 46]) (Lib.decDigits ct) (Lib.decDigits cb ++ 46 :: 46 :: Lib.decDigits ct) (by simp) (by first | omega | (simp; omega)) (by first | omega | (simp; done))
    have k3 := add_l (Lib.decDigits cb ++ 46 :: 46 :: Lib.decDigits ct) [64] (Lib.decDigits cb ++ 46 :: 46 :: (Lib.decDigits ct ++ [64])) (by simp) (by first | omega | (simp; omega)) (by first | omega | (simp; done))
    have k4 := add_l (Lib.decDigits cb ++ 46 :: 46 :: (Lib.decDigits ct ++ [64])) (Lib.decDigits ca) (Lib.decDigits cb ++ 46 :: 46 :: (Lib.decDigits ct ++ 64 :: Lib.decDigits ca)) (by simp) (by first | omega | (simp; omega)) (by first | omega | (simp; done))
    have k5 := add_l (Lib.decDigits cb ++ 46 :: 46 :: (Lib.decDigits ct ++ 64 :: Lib.decDigits ca)) [58] (Lib.decDigits cb ++ 46 :: 46 :: (Lib.decDigits ct ++ 64 :: (Lib.decDigits ca ++ [58]))) (by simp) (by first | omega | (simp; omega)) (by first | omega | (simp; done))
    have k6 := add_l (Lib.decDigits cb ++ 46 :: 46 :: (Lib.decDigits ct ++ 64 :: (Lib.decDigits ca ++ [58]))) (Lib.decDigits cp) (Lib.decDigits cb ++ 46 :: 46 :: (Lib.decDigits ct ++ 64 :: (Lib.decDigits ca ++ 58 :: Lib.decDigits cp))) (by simp) (by first | omega | (simp; omega)) (by first | omega | (simp; done))
    have k7 := add_l [45] (Lib.decDigits cb ++ 46 :: 46 :: (Lib.decDigits ct ++ 64 :: (Lib.decDigits ca ++ 58 :: Lib.decDigits cp))) (45 :: (Lib.decDigits cb ++ 46 :: 46 :: (Lib.decDigits ct ++ 64 :: (Lib.decDigits ca ++ 58 :: Lib.decDigits cp)))) (by simp) (by simp) (by simp; omega)
    clear l1 l2 l3 l4
    have HT0 := Lib.hid (tab_on HT.out (bAlloc (Below.refl _ _) (.cells #[.int .u64 cb, .int .u64 ct, .int .u64 ca, .int .i64 cp, .int .i64 cy, .bool false] 24)))
    go_region_held3 (fun W => W.cell? ⟨w.heap.size, 0, none⟩ = some (.int .u64 cb) ∧ W.cell? ⟨w.heap.size, 1, none⟩ = some (.int .u64 ct) ∧ W.cell? ⟨w.heap.size, 2, none⟩ = some (.int .u64 ca) ∧ W.cell? ⟨w.heap.size, 3, none⟩ = some (.int .i64 cp))
      (first | exact ⟨(hc4 0).trans rfl, (hc4 1).trans rfl, (hc4 2).trans rfl, (hc4 3).trans rfl⟩ | exact ⟨(hc3 0).trans rfl, (hc3 1).trans rfl, (hc3 2).trans rfl, (hc3 3).trans rfl⟩ | exact ⟨(hc2 0).trans rfl, (hc2 1).trans rfl, (hc2 2).trans rfl, (hc2 3).trans rfl⟩ | exact ⟨(hc1 0).trans rfl, (hc1 1).trans rfl, (hc1 2).trans rfl, (hc1 3).trans rfl⟩ | go_keep)
      (first
        | (go_at_call 42; (with_reducible refine (dec_any cb H1.out _ (tab_on HT0.out (Below.drew (Below.refl _ _)))).mono ?_); rintro e w1 ⟨rfl, hb⟩; have HB1 := Lib.hid (bTrans (Below.drew (Below.refl _ _)) hb); have hc1 := boxed HB1.out; clear hb)
        | (go_at_call 42; (with_reducible refine (dec_any ct H2.out _ (tab_on HT0.out HB1.out)).mono ?_); rintro e w2 ⟨rfl, hb⟩; have HB2 := Lib.hid (bTrans HB1.out hb); have hc2 := boxed HB2.out; clear hb)
        | (go_at_call 42; (with_reducible refine (dec_any ca H3.out _ (tab_on HT0.out HB2.out)).mono ?_); rintro e w3 ⟨rfl, hb⟩; have HB3 := Lib.hid (bTrans HB2.out hb); have hc3 := boxed HB3.out; clear hb)
        | (go_at_call 43; (with_reducible refine (itoa_any cp H4.out _ (tab_on HT0.out HB3.out)).mono ?_); rintro e w4 ⟨rfl, hb⟩; have HB4 := Lib.hid (bTrans HB3.out hb); have hc4 := boxed HB4.out; clear hb))
    clear k1 k2 k3 k4 k5 k6 k7 hc1 hc2 hc3
    go_wp2_with (go_at_call 36; refine (sealed_any _ _ _ _ _ _ _).mono ?_; rintro e w5 ⟨rfl, rfl⟩)
    go_ret
    exact ⟨rfl, bAlloc (((Below.refl _ _).alloc (Nat.le_refl _) _).trans (HB4.out.mono (by simp))) _⟩
  · go_enter Tryd.func31, Tryd.ntmps31
    go_wp2_with fail
    have l1 := dec_len cb H1.out
    have l2 := dec_len ct H2.out
    have l3 := dec_len ca H3.out
    have l4 := dec_len cp (by have := H4.out; omega)
    have k1 := add_l (Lib.decDigits cb) [46, 46] (Lib.decDigits cb ++ [46, 46]) (by simp) (by first | omega | (simp; omega)) (by first | omega | (simp; done))
    have k2 := add_l (Lib.decDigits cb ++ [46, 46]) (Lib.decDigits ct) (Lib.decDigits cb ++ 46 :: 46 :: Lib.decDigits ct) (by simp) (by first | omega | (simp; omega)) (by first | omega | (simp; done))
    have k3 := add_l (Lib.decDigits cb ++ 46 :: 46 :: Lib.decDigits ct) [64] (Lib.decDigits cb ++ 46 :: 46 :: (Lib.decDigits ct ++ [64])) (by simp) (by first | omega | (simp; omega)) (by first | omega | (simp; done))
    have k4 := add_l (Lib.decDigits cb ++ 46 :: 46 :: (Lib.decDigits ct ++ [64])) (Lib.decDigits ca) (Lib.decDigits cb ++ 46 :: 46 :: (Lib.decDigits ct ++ 64 :: Lib.decDigits ca)) (by simp) (by first | omega | (simp; omega)) (by first | omega | (simp; done))
    have k5 := add_l (Lib.decDigits cb ++ 46 :: 46 :: (Lib.decDigits ct ++ 64 :: Lib.decDigits ca)) [58] (Lib.decDigits cb ++ 46 :: 46 :: (Lib.decDigits ct ++ 64 :: (Lib.decDigits ca ++ [58]))) (by simp) (by first | omega | (simp; omega)) (by first | omega | (simp; done))
    have k6 := add_l (Lib.decDigits cb ++ 46 :: 46 :: (Lib.decDigits ct ++ 64 :: (Lib.decDigits ca ++ [58]))) (Lib.decDigits cp) (Lib.decDigits cb ++ 46 :: 46 :: (Lib.decDigits ct ++ 64 :: (Lib.decDigits ca ++ 58 :: Lib.decDigits cp))) (by simp) (by first | omega | (simp; omega)) (by first | omega | (simp; done))
    have k7 := add_l [43] (Lib.decDigits cb ++ 46 :: 46 :: (Lib.decDigits ct ++ 64 :: (Lib.decDigits ca ++ 58 :: Lib.decDigits cp))) (43 :: (Lib.decDigits cb ++ 46 :: 46 :: (Lib.decDigits ct ++ 64 :: (Lib.decDigits ca ++ 58 :: Lib.decDigits cp)))) (by simp) (by simp) (by simp; omega)
    clear l1 l2 l3 l4
    have HT0 := Lib.hid (tab_on HT.out (bAlloc (Below.refl _ _) (.cells #[.int .u64 cb, .int .u64 ct, .int .u64 ca, .int .i64 cp, .int .i64 cy, .bool true] 24)))
    go_region_held3 (fun W => W.cell? ⟨w.heap.size, 0, none⟩ = some (.int .u64 cb) ∧ W.cell? ⟨w.heap.size, 1, none⟩ = some (.int .u64 ct) ∧ W.cell? ⟨w.heap.size, 2, none⟩ = some (.int .u64 ca) ∧ W.cell? ⟨w.heap.size, 3, none⟩ = some (.int .i64 cp))
      (first | exact ⟨(hc4 0).trans rfl, (hc4 1).trans rfl, (hc4 2).trans rfl, (hc4 3).trans rfl⟩ | exact ⟨(hc3 0).trans rfl, (hc3 1).trans rfl, (hc3 2).trans rfl, (hc3 3).trans rfl⟩ | exact ⟨(hc2 0).trans rfl, (hc2 1).trans rfl, (hc2 2).trans rfl, (hc2 3).trans rfl⟩ | exact ⟨(hc1 0).trans rfl, (hc1 1).trans rfl, (hc1 2).trans rfl, (hc1 3).trans rfl⟩ | go_keep)
      (first
        | (go_at_call 42; (with_reducible refine (dec_any cb H1.out _ (tab_on HT0.out (Below.drew (Below.refl _ _)))).mono ?_); rintro e w1 ⟨rfl, hb⟩; have HB1 := Lib.hid (bTrans (Below.drew (Below.refl _ _)) hb); have hc1 := boxed HB1.out; clear hb)
        | (go_at_call 42; (with_reducible refine (dec_any ct H2.out _ (tab_on HT0.out HB1.out)).mono ?_); rintro e w2 ⟨rfl, hb⟩; have HB2 := Lib.hid (bTrans HB1.out hb); have hc2 := boxed HB2.out; clear hb)
        | (go_at_call 42; (with_reducible refine (dec_any ca H3.out _ (tab_on HT0.out HB2.out)).mono ?_); rintro e w3 ⟨rfl, hb⟩; have HB3 := Lib.hid (bTrans HB2.out hb); have hc3 := boxed HB3.out; clear hb)
        | (go_at_call 43; (with_reducible refine (itoa_any cp H4.out _ (tab_on HT0.out HB3.out)).mono ?_); rintro e w4 ⟨rfl, hb⟩; have HB4 := Lib.hid (bTrans HB3.out hb); have hc4 := boxed HB4.out; clear hb))
    clear k1 k2 k3 k4 k5 k6 k7 hc1 hc2 hc3
    go_wp2_with (go_at_call 36; refine (sealed_any _ _ _ _ _ _ _).mono ?_; rintro e w5 ⟨rfl, rfl⟩)
    go_ret
    exact ⟨rfl, bAlloc (((Below.refl _ _).alloc (Nat.le_refl _) _).trans (HB4.out.mono (by simp))) _⟩
end Go.Proofs.YtoijhhacgafblaaDoor
