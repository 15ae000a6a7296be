/- The document's own text of a capability. -/
import Derived.Test.YtoijhhacgafblaaDoorCapNum
namespace Go.Proofs.YtoijhhacgafblaaDoor
set_option linter.unusedVariables false
set_option linter.unusedSimpArgs false
open Go.ChangeShapes Go.WideShapes Go.ChangeAt Go.RowKit

set_option maxRecDepth 8000 in
theorem rtext_tf (cb ct ca cp : Nat) (cy : Int) (w : World) (h1 : cb < 18446744073709551616) (h2 : ct < 18446744073709551616) (h3 : ca < 18446744073709551616) (h4 : cp < 256) (hy : cy < 0) :
    Calls Tryd.prog 34 #[.agg #[.int .u64 cb, .int .u64 ct, .int .u64 ca, .int .i64 cp, .int .i64 cy, .bool false]] w fun e w' => e = .returned (.string ⟨(textT false cb ct ca cp).toArray⟩) ∧ Below w.heap.size w w' := by
    have H1 := Lib.hid h1
    have H2 := Lib.hid h2
    have H3 := Lib.hid h3
    have H4 := Lib.hid h4
    clear h1 h2 h3 h4
    have lcb := dec_len cb H1.out
    have lct := dec_len ct H2.out
    have lca := dec_len ca H3.out
    have lcp := dec_len cp (by have := H4.out; omega)
    have k1 := add_l (Lib.decDigits cb) ([46, 46]) (Lib.decDigits cb ++ [46, 46]) (by simp) (by first | omega | (simp; omega) | (simp; done)) (by first | omega | (simp; omega) | (simp; done))
    have k2 := add_l (Lib.decDigits cb ++ [46, 46]) (Lib.decDigits ct) (Lib.decDigits cb ++ 46 :: 46 :: Lib.decDigits ct) (by simp) (by first | omega | (simp; omega) | (simp; done)) (by first | omega | (simp; omega) | (simp; done))
    have k3 := add_l (Lib.decDigits cb ++ 46 :: 46 :: Lib.decDigits ct) ([64]) (Lib.decDigits cb ++ 46 :: 46 :: (Lib.decDigits ct ++ [64])) (by simp) (by first | omega | (simp; omega) | (simp; done)) (by first | omega | (simp; omega) | (simp; done))
    have k4 := add_l (Lib.decDigits cb ++ 46 :: 46 :: (Lib.decDigits ct ++ [64])) (Lib.decDigits ca) (Lib.decDigits cb ++ 46 :: 46 :: (Lib.decDigits ct ++ 64 :: Lib.decDigits ca)) (by simp) (by first | omega | (simp; omega) | (simp; done)) (by first | omega | (simp; omega) | (simp; done))
    have k5 := add_l (Lib.decDigits cb ++ 46 :: 46 :: (Lib.decDigits ct ++ 64 :: Lib.decDigits ca)) ([58]) (Lib.decDigits cb ++ 46 :: 46 :: (Lib.decDigits ct ++ 64 :: (Lib.decDigits ca ++ [58]))) (by simp) (by first | omega | (simp; omega) | (simp; done)) (by first | omega | (simp; omega) | (simp; done))
    have k6 := add_l (Lib.decDigits cb ++ 46 :: 46 :: (Lib.decDigits ct ++ 64 :: (Lib.decDigits ca ++ [58]))) (Lib.decDigits cp) (Lib.decDigits cb ++ 46 :: 46 :: (Lib.decDigits ct ++ 64 :: (Lib.decDigits ca ++ 58 :: Lib.decDigits cp))) (by simp) (by first | omega | (simp; omega) | (simp; done)) (by first | omega | (simp; omega) | (simp; done))
    have k7 := add_l ([45]) (Lib.decDigits cb ++ 46 :: 46 :: (Lib.decDigits ct ++ 64 :: (Lib.decDigits ca ++ 58 :: Lib.decDigits cp))) (45 :: (Lib.decDigits cb ++ 46 :: 46 :: (Lib.decDigits ct ++ 64 :: (Lib.decDigits ca ++ 58 :: Lib.decDigits cp)))) (by simp) (by first | omega | (simp; omega) | (simp; done)) (by first | omega | (simp; omega) | (simp; done))
    have K1 := Lib.hid k1
    have K2 := Lib.hid k2
    have K3 := Lib.hid k3
    have K4 := Lib.hid k4
    have K5 := Lib.hid k5
    have K6 := Lib.hid k6
    have K7 := Lib.hid k7
    clear k1 k2 k3 k4 k5 k6 k7 lcb lct lca lcp
    go_enter Tryd.func34, Tryd.ntmps34
    go_wp2_with fail
    have k1 := K1.out
    have k2 := K2.out
    have k3 := K3.out
    have k4 := K4.out
    have k5 := K5.out
    have k6 := K6.out
    have hw4 : IntKind.u64.wrap (cp : Int) = (cp : Int) := by rw [IntKind.wrap_u64]; have := H4.out; omega
    have HW4 := Lib.hid hw4
    clear hw4
    go_region_held3 (fun W => W.cell? ⟨w.heap.size, 0, none⟩ = some (.int .u64 cb) ∧ W.cell? ⟨w.heap.size, 1, none⟩ = some (.int .u64 ct) ∧ W.cell? ⟨w.heap.size, 2, none⟩ = some (.int .u64 ca) ∧ W.cell? ⟨w.heap.size, 3, none⟩ = some (.int .i64 cp))
      (first | exact ⟨(hc4 0).trans rfl, (hc4 1).trans rfl, (hc4 2).trans rfl, (hc4 3).trans rfl⟩ | exact ⟨(hc3 0).trans rfl, (hc3 1).trans rfl, (hc3 2).trans rfl, (hc3 3).trans rfl⟩ | exact ⟨(hc2 0).trans rfl, (hc2 1).trans rfl, (hc2 2).trans rfl, (hc2 3).trans rfl⟩ | exact ⟨(hc1 0).trans rfl, (hc1 1).trans rfl, (hc1 2).trans rfl, (hc1 3).trans rfl⟩ | go_keep)
      (first
        | (go_at_call 44; (with_reducible refine (number_any cb cb _ (Nat.le_refl _) H1.out).mono ?_); rintro e w1 ⟨rfl, hb⟩; have HB1 := Lib.hid (bTrans (Below.drew (Below.refl _ _)) hb); have hc1 := boxed HB1.out; clear hb)
        | (go_at_call 44; (with_reducible refine (number_any ct ct _ (Nat.le_refl _) H2.out).mono ?_); rintro e w2 ⟨rfl, hb⟩; have HB2 := Lib.hid (bTrans HB1.out hb); have hc2 := boxed HB2.out; clear hb)
        | (go_at_call 44; (with_reducible refine (number_any ca ca _ (Nat.le_refl _) H3.out).mono ?_); rintro e w3 ⟨rfl, hb⟩; have HB3 := Lib.hid (bTrans HB2.out hb); have hc3 := boxed HB3.out; clear hb)
        | (go_at_call 44; rw [HW4.out]; (with_reducible refine (number_any cp cp _ (Nat.le_refl _) (by have := H4.out; omega)).mono ?_); rintro e w4 ⟨rfl, hb⟩; have HB4 := Lib.hid (bTrans HB3.out hb); have hc4 := boxed HB4.out; clear hb))
    clear k1 k2 k3 k4 k5 k6 hc1 hc2 hc3
    have c4 : w4.cell? ⟨w.heap.size, 4, none⟩ = some (.int .i64 cy) := (hc4 4).trans rfl
    have c5 : w4.cell? ⟨w.heap.size, 5, none⟩ = some (.bool false) := (hc4 5).trans rfl
    clear hc4
    have hd : decide (0 ≤ cy) = false := decide_eq_false (by omega)
    have k7 := K7.out
    go_wp2_with fail
    go_ret
    exact ⟨rfl, bTrans (bAlloc (Below.refl _ _) _) HB4.out⟩

set_option maxRecDepth 8000 in
theorem rtext_tt (cb ct ca cp : Nat) (cy : Int) (w : World) (h1 : cb < 18446744073709551616) (h2 : ct < 18446744073709551616) (h3 : ca < 18446744073709551616) (h4 : cp < 256) (hy : cy < 0) :
    Calls Tryd.prog 34 #[.agg #[.int .u64 cb, .int .u64 ct, .int .u64 ca, .int .i64 cp, .int .i64 cy, .bool true]] w fun e w' => e = .returned (.string ⟨(textT true cb ct ca cp).toArray⟩) ∧ Below w.heap.size w w' := by
    have H1 := Lib.hid h1
    have H2 := Lib.hid h2
    have H3 := Lib.hid h3
    have H4 := Lib.hid h4
    clear h1 h2 h3 h4
    have lcb := dec_len cb H1.out
    have lct := dec_len ct H2.out
    have lca := dec_len ca H3.out
    have lcp := dec_len cp (by have := H4.out; omega)
    have k1 := add_l (Lib.decDigits cb) ([46, 46]) (Lib.decDigits cb ++ [46, 46]) (by simp) (by first | omega | (simp; omega) | (simp; done)) (by first | omega | (simp; omega) | (simp; done))
    have k2 := add_l (Lib.decDigits cb ++ [46, 46]) (Lib.decDigits ct) (Lib.decDigits cb ++ 46 :: 46 :: Lib.decDigits ct) (by simp) (by first | omega | (simp; omega) | (simp; done)) (by first | omega | (simp; omega) | (simp; done))
    have k3 := add_l (Lib.decDigits cb ++ 46 :: 46 :: Lib.decDigits ct) ([64]) (Lib.decDigits cb ++ 46 :: 46 :: (Lib.decDigits ct ++ [64])) (by simp) (by first | omega | (simp; omega) | (simp; done)) (by first | omega | (simp; omega) | (simp; done))
    have k4 := add_l (Lib.decDigits cb ++ 46 :: 46 :: (Lib.decDigits ct ++ [64])) (Lib.decDigits ca) (Lib.decDigits cb ++ 46 :: 46 :: (Lib.decDigits ct ++ 64 :: Lib.decDigits ca)) (by simp) (by first | omega | (simp; omega) | (simp; done)) (by first | omega | (simp; omega) | (simp; done))
    have k5 := add_l (Lib.decDigits cb ++ 46 :: 46 :: (Lib.decDigits ct ++ 64 :: Lib.decDigits ca)) ([58]) (Lib.decDigits cb ++ 46 :: 46 :: (Lib.decDigits ct ++ 64 :: (Lib.decDigits ca ++ [58]))) (by simp) (by first | omega | (simp; omega) | (simp; done)) (by first | omega | (simp; omega) | (simp; done))
    have k6 := add_l (Lib.decDigits cb ++ 46 :: 46 :: (Lib.decDigits ct ++ 64 :: (Lib.decDigits ca ++ [58]))) (Lib.decDigits cp) (Lib.decDigits cb ++ 46 :: 46 :: (Lib.decDigits ct ++ 64 :: (Lib.decDigits ca ++ 58 :: Lib.decDigits cp))) (by simp) (by first | omega | (simp; omega) | (simp; done)) (by first | omega | (simp; omega) | (simp; done))
    have k7 := add_l ([43]) (Lib.decDigits cb ++ 46 :: 46 :: (Lib.decDigits ct ++ 64 :: (Lib.decDigits ca ++ 58 :: Lib.decDigits cp))) (43 :: (Lib.decDigits cb ++ 46 :: 46 :: (Lib.decDigits ct ++ 64 :: (Lib.decDigits ca ++ 58 :: Lib.decDigits cp)))) (by simp) (by first | omega | (simp; omega) | (simp; done)) (by first | omega | (simp; omega) | (simp; done))
    have K1 := Lib.hid k1
    have K2 := Lib.hid k2
    have K3 := Lib.hid k3
    have K4 := Lib.hid k4
    have K5 := Lib.hid k5
    have K6 := Lib.hid k6
    have K7 := Lib.hid k7
    clear k1 k2 k3 k4 k5 k6 k7 lcb lct lca lcp
    go_enter Tryd.func34, Tryd.ntmps34
    go_wp2_with fail
    have k1 := K1.out
    have k2 := K2.out
    have k3 := K3.out
    have k4 := K4.out
    have k5 := K5.out
    have k6 := K6.out
    have hw4 : IntKind.u64.wrap (cp : Int) = (cp : Int) := by rw [IntKind.wrap_u64]; have := H4.out; omega
    have HW4 := Lib.hid hw4
    clear hw4
    go_region_held3 (fun W => W.cell? ⟨w.heap.size, 0, none⟩ = some (.int .u64 cb) ∧ W.cell? ⟨w.heap.size, 1, none⟩ = some (.int .u64 ct) ∧ W.cell? ⟨w.heap.size, 2, none⟩ = some (.int .u64 ca) ∧ W.cell? ⟨w.heap.size, 3, none⟩ = some (.int .i64 cp))
      (first | exact ⟨(hc4 0).trans rfl, (hc4 1).trans rfl, (hc4 2).trans rfl, (hc4 3).trans rfl⟩ | exact ⟨(hc3 0).trans rfl, (hc3 1).trans rfl, (hc3 2).trans rfl, (hc3 3).trans rfl⟩ | exact ⟨(hc2 0).trans rfl, (hc2 1).trans rfl, (hc2 2).trans rfl, (hc2 3).trans rfl⟩ | exact ⟨(hc1 0).trans rfl, (hc1 1).trans rfl, (hc1 2).trans rfl, (hc1 3).trans rfl⟩ | go_keep)
      (first
        | (go_at_call 44; (with_reducible refine (number_any cb cb _ (Nat.le_refl _) H1.out).mono ?_); rintro e w1 ⟨rfl, hb⟩; have HB1 := Lib.hid (bTrans (Below.drew (Below.refl _ _)) hb); have hc1 := boxed HB1.out; clear hb)
        | (go_at_call 44; (with_reducible refine (number_any ct ct _ (Nat.le_refl _) H2.out).mono ?_); rintro e w2 ⟨rfl, hb⟩; have HB2 := Lib.hid (bTrans HB1.out hb); have hc2 := boxed HB2.out; clear hb)
        | (go_at_call 44; (with_reducible refine (number_any ca ca _ (Nat.le_refl _) H3.out).mono ?_); rintro e w3 ⟨rfl, hb⟩; have HB3 := Lib.hid (bTrans HB2.out hb); have hc3 := boxed HB3.out; clear hb)
        | (go_at_call 44; rw [HW4.out]; (with_reducible refine (number_any cp cp _ (Nat.le_refl _) (by have := H4.out; omega)).mono ?_); rintro e w4 ⟨rfl, hb⟩; have HB4 := Lib.hid (bTrans HB3.out hb); have hc4 := boxed HB4.out; clear hb))
    clear k1 k2 k3 k4 k5 k6 hc1 hc2 hc3
    have c4 : w4.cell? ⟨w.heap.size, 4, none⟩ = some (.int .i64 cy) := (hc4 4).trans rfl
    have c5 : w4.cell? ⟨w.heap.size, 5, none⟩ = some (.bool true) := (hc4 5).trans rfl
    clear hc4
    have hd : decide (0 ≤ cy) = false := decide_eq_false (by omega)
    have k7 := K7.out
    go_wp2_with fail
    go_ret
    exact ⟨rfl, bTrans (bAlloc (Below.refl _ _) _) HB4.out⟩

set_option maxRecDepth 8000 in
theorem rtext_sf (cb ct ca cp cy : Nat) (w : World) (h1 : cb < 18446744073709551616) (h2 : ct < 18446744073709551616) (h3 : ca < 18446744073709551616) (h4 : cp < 256) (hy : cy < 64) :
    Calls Tryd.prog 34 #[.agg #[.int .u64 cb, .int .u64 ct, .int .u64 ca, .int .i64 cp, .int .i64 cy, .bool false]] w fun e w' => e = .returned (.string ⟨(textS false cb ct ca cp cy).toArray⟩) ∧ Below w.heap.size w w' := by
    have H1 := Lib.hid h1
    have H2 := Lib.hid h2
    have H3 := Lib.hid h3
    have H4 := Lib.hid h4
    clear h1 h2 h3 h4
    have lcb := dec_len cb H1.out
    have lct := dec_len ct H2.out
    have lca := dec_len ca H3.out
    have lcp := dec_len cp (by have := H4.out; omega)
    have lcy := dec_len cy (by omega)
    have k1 := add_l (Lib.decDigits cb) ([46, 46]) (Lib.decDigits cb ++ [46, 46]) (by simp) (by first | omega | (simp; omega) | (simp; done)) (by first | omega | (simp; omega) | (simp; done))
    have k2 := add_l (Lib.decDigits cb ++ [46, 46]) (Lib.decDigits ct) (Lib.decDigits cb ++ 46 :: 46 :: Lib.decDigits ct) (by simp) (by first | omega | (simp; omega) | (simp; done)) (by first | omega | (simp; omega) | (simp; done))
    have k3 := add_l (Lib.decDigits cb ++ 46 :: 46 :: Lib.decDigits ct) ([64]) (Lib.decDigits cb ++ 46 :: 46 :: (Lib.decDigits ct ++ [64])) (by simp) (by first | omega | (simp; omega) | (simp; done)) (by first | omega | (simp; omega) | (simp; done))
    have k4 := add_l (Lib.decDigits cb ++ 46 :: 46 :: (Lib.decDigits ct ++ [64])) (Lib.decDigits ca) (Lib.decDigits cb ++ 46 :: 46 :: (Lib.decDigits ct ++ 64 :: Lib.decDigits ca)) (by simp) (by first | omega | (simp; omega) | (simp; done)) (by first | omega | (simp; omega) | (simp; done))
    have k5 := add_l (Lib.decDigits cb ++ 46 :: 46 :: (Lib.decDigits ct ++ 64 :: Lib.decDigits ca)) ([58]) (Lib.decDigits cb ++ 46 :: 46 :: (Lib.decDigits ct ++ 64 :: (Lib.decDigits ca ++ [58]))) (by simp) (by first | omega | (simp; omega) | (simp; done)) (by first | omega | (simp; omega) | (simp; done))
    have k6 := add_l (Lib.decDigits cb ++ 46 :: 46 :: (Lib.decDigits ct ++ 64 :: (Lib.decDigits ca ++ [58]))) (Lib.decDigits cp) (Lib.decDigits cb ++ 46 :: 46 :: (Lib.decDigits ct ++ 64 :: (Lib.decDigits ca ++ 58 :: Lib.decDigits cp))) (by simp) (by first | omega | (simp; omega) | (simp; done)) (by first | omega | (simp; omega) | (simp; done))
    have k7 := add_l (Lib.decDigits cb ++ 46 :: 46 :: (Lib.decDigits ct ++ 64 :: (Lib.decDigits ca ++ 58 :: Lib.decDigits cp))) ([33]) (Lib.decDigits cb ++ 46 :: 46 :: (Lib.decDigits ct ++ 64 :: (Lib.decDigits ca ++ 58 :: (Lib.decDigits cp ++ [33])))) (by simp) (by first | omega | (simp; omega) | (simp; done)) (by first | omega | (simp; omega) | (simp; done))
    have k8 := add_l (Lib.decDigits cb ++ 46 :: 46 :: (Lib.decDigits ct ++ 64 :: (Lib.decDigits ca ++ 58 :: (Lib.decDigits cp ++ [33])))) (Lib.decDigits cy) (Lib.decDigits cb ++ 46 :: 46 :: (Lib.decDigits ct ++ 64 :: (Lib.decDigits ca ++ 58 :: (Lib.decDigits cp ++ 33 :: Lib.decDigits cy)))) (by simp) (by first | omega | (simp; omega) | (simp; done)) (by first | omega | (simp; omega) | (simp; done))
    have k9 := add_l ([45]) (Lib.decDigits cb ++ 46 :: 46 :: (Lib.decDigits ct ++ 64 :: (Lib.decDigits ca ++ 58 :: (Lib.decDigits cp ++ 33 :: Lib.decDigits cy)))) (45 :: (Lib.decDigits cb ++ 46 :: 46 :: (Lib.decDigits ct ++ 64 :: (Lib.decDigits ca ++ 58 :: (Lib.decDigits cp ++ 33 :: Lib.decDigits cy))))) (by simp) (by first | omega | (simp; omega) | (simp; done)) (by first | omega | (simp; omega) | (simp; done))
    have K1 := Lib.hid k1
    have K2 := Lib.hid k2
    have K3 := Lib.hid k3
    have K4 := Lib.hid k4
    have K5 := Lib.hid k5
    have K6 := Lib.hid k6
    have K7 := Lib.hid k7
    have K8 := Lib.hid k8
    have K9 := Lib.hid k9
    clear k1 k2 k3 k4 k5 k6 k7 k8 k9 lcb lct lca lcp lcy
    go_enter Tryd.func34, Tryd.ntmps34
    go_wp2_with fail
    have k1 := K1.out
    have k2 := K2.out
    have k3 := K3.out
    have k4 := K4.out
    have k5 := K5.out
    have k6 := K6.out
    have hw4 : IntKind.u64.wrap (cp : Int) = (cp : Int) := by rw [IntKind.wrap_u64]; have := H4.out; omega
    have HW4 := Lib.hid hw4
    clear hw4
    go_region_held3 (fun W => W.cell? ⟨w.heap.size, 0, none⟩ = some (.int .u64 cb) ∧ W.cell? ⟨w.heap.size, 1, none⟩ = some (.int .u64 ct) ∧ W.cell? ⟨w.heap.size, 2, none⟩ = some (.int .u64 ca) ∧ W.cell? ⟨w.heap.size, 3, none⟩ = some (.int .i64 cp))
      (first | exact ⟨(hc4 0).trans rfl, (hc4 1).trans rfl, (hc4 2).trans rfl, (hc4 3).trans rfl⟩ | exact ⟨(hc3 0).trans rfl, (hc3 1).trans rfl, (hc3 2).trans rfl, (hc3 3).trans rfl⟩ | exact ⟨(hc2 0).trans rfl, (hc2 1).trans rfl, (hc2 2).trans rfl, (hc2 3).trans rfl⟩ | exact ⟨(hc1 0).trans rfl, (hc1 1).trans rfl, (hc1 2).trans rfl, (hc1 3).trans rfl⟩ | go_keep)
      (first
        | (go_at_call 44; (with_reducible refine (number_any cb cb _ (Nat.le_refl _) H1.out).mono ?_); rintro e w1 ⟨rfl, hb⟩; have HB1 := Lib.hid (bTrans (Below.drew (Below.refl _ _)) hb); have hc1 := boxed HB1.out; clear hb)
        | (go_at_call 44; (with_reducible refine (number_any ct ct _ (Nat.le_refl _) H2.out).mono ?_); rintro e w2 ⟨rfl, hb⟩; have HB2 := Lib.hid (bTrans HB1.out hb); have hc2 := boxed HB2.out; clear hb)
        | (go_at_call 44; (with_reducible refine (number_any ca ca _ (Nat.le_refl _) H3.out).mono ?_); rintro e w3 ⟨rfl, hb⟩; have HB3 := Lib.hid (bTrans HB2.out hb); have hc3 := boxed HB3.out; clear hb)
        | (go_at_call 44; rw [HW4.out]; (with_reducible refine (number_any cp cp _ (Nat.le_refl _) (by have := H4.out; omega)).mono ?_); rintro e w4 ⟨rfl, hb⟩; have HB4 := Lib.hid (bTrans HB3.out hb); have hc4 := boxed HB4.out; clear hb))
    clear k1 k2 k3 k4 k5 k6 hc1 hc2 hc3
    have c4 : w4.cell? ⟨w.heap.size, 4, none⟩ = some (.int .i64 cy) := (hc4 4).trans rfl
    have c5 : w4.cell? ⟨w.heap.size, 5, none⟩ = some (.bool false) := (hc4 5).trans rfl
    clear hc4
    have hd : decide (0 ≤ (cy : Int)) = true := decide_eq_true (by omega)
    have k7 := K7.out; have k8 := K8.out
    go_wp2_with fail
    refine (number_any cy cy _ (Nat.le_refl _) (by omega)).mono ?_; rintro e w5 ⟨rfl, hb⟩
    have HB5 := Lib.hid (bTrans HB4.out hb); have c5 := (boxed HB5.out 5).trans rfl
    have k9 := K9.out
    go_wp2_with fail
    go_ret
    exact ⟨rfl, bTrans (bAlloc (Below.refl _ _) _) HB5.out⟩

set_option maxRecDepth 8000 in
theorem rtext_st (cb ct ca cp cy : Nat) (w : World) (h1 : cb < 18446744073709551616) (h2 : ct < 18446744073709551616) (h3 : ca < 18446744073709551616) (h4 : cp < 256) (hy : cy < 64) :
    Calls Tryd.prog 34 #[.agg #[.int .u64 cb, .int .u64 ct, .int .u64 ca, .int .i64 cp, .int .i64 cy, .bool true]] w fun e w' => e = .returned (.string ⟨(textS true cb ct ca cp cy).toArray⟩) ∧ Below w.heap.size w w' := by
    have H1 := Lib.hid h1
    have H2 := Lib.hid h2
    have H3 := Lib.hid h3
    have H4 := Lib.hid h4
    clear h1 h2 h3 h4
    have lcb := dec_len cb H1.out
    have lct := dec_len ct H2.out
    have lca := dec_len ca H3.out
    have lcp := dec_len cp (by have := H4.out; omega)
    have lcy := dec_len cy (by omega)
    have k1 := add_l (Lib.decDigits cb) ([46, 46]) (Lib.decDigits cb ++ [46, 46]) (by simp) (by first | omega | (simp; omega) | (simp; done)) (by first | omega | (simp; omega) | (simp; done))
    have k2 := add_l (Lib.decDigits cb ++ [46, 46]) (Lib.decDigits ct) (Lib.decDigits cb ++ 46 :: 46 :: Lib.decDigits ct) (by simp) (by first | omega | (simp; omega) | (simp; done)) (by first | omega | (simp; omega) | (simp; done))
    have k3 := add_l (Lib.decDigits cb ++ 46 :: 46 :: Lib.decDigits ct) ([64]) (Lib.decDigits cb ++ 46 :: 46 :: (Lib.decDigits ct ++ [64])) (by simp) (by first | omega | (simp; omega) | (simp; done)) (by first | omega | (simp; omega) | (simp; done))
    have k4 := add_l (Lib.decDigits cb ++ 46 :: 46 :: (Lib.decDigits ct ++ [64])) (Lib.decDigits ca) (Lib.decDigits cb ++ 46 :: 46 :: (Lib.decDigits ct ++ 64 :: Lib.decDigits ca)) (by simp) (by first | omega | (simp; omega) | (simp; done)) (by first | omega | (simp; omega) | (simp; done))
    have k5 := add_l (Lib.decDigits cb ++ 46 :: 46 :: (Lib.decDigits ct ++ 64 :: Lib.decDigits ca)) ([58]) (Lib.decDigits cb ++ 46 :: 46 :: (Lib.decDigits ct ++ 64 :: (Lib.decDigits ca ++ [58]))) (by simp) (by first | omega | (simp; omega) | (simp; done)) (by first | omega | (simp; omega) | (simp; done))
    have k6 := add_l (Lib.decDigits cb ++ 46 :: 46 :: (Lib.decDigits ct ++ 64 :: (Lib.decDigits ca ++ [58]))) (Lib.decDigits cp) (Lib.decDigits cb ++ 46 :: 46 :: (Lib.decDigits ct ++ 64 :: (Lib.decDigits ca ++ 58 :: Lib.decDigits cp))) (by simp) (by first | omega | (simp; omega) | (simp; done)) (by first | omega | (simp; omega) | (simp; done))
    have k7 := add_l (Lib.decDigits cb ++ 46 :: 46 :: (Lib.decDigits ct ++ 64 :: (Lib.decDigits ca ++ 58 :: Lib.decDigits cp))) ([33]) (Lib.decDigits cb ++ 46 :: 46 :: (Lib.decDigits ct ++ 64 :: (Lib.decDigits ca ++ 58 :: (Lib.decDigits cp ++ [33])))) (by simp) (by first | omega | (simp; omega) | (simp; done)) (by first | omega | (simp; omega) | (simp; done))
    have k8 := add_l (Lib.decDigits cb ++ 46 :: 46 :: (Lib.decDigits ct ++ 64 :: (Lib.decDigits ca ++ 58 :: (Lib.decDigits cp ++ [33])))) (Lib.decDigits cy) (Lib.decDigits cb ++ 46 :: 46 :: (Lib.decDigits ct ++ 64 :: (Lib.decDigits ca ++ 58 :: (Lib.decDigits cp ++ 33 :: Lib.decDigits cy)))) (by simp) (by first | omega | (simp; omega) | (simp; done)) (by first | omega | (simp; omega) | (simp; done))
    have k9 := add_l ([43]) (Lib.decDigits cb ++ 46 :: 46 :: (Lib.decDigits ct ++ 64 :: (Lib.decDigits ca ++ 58 :: (Lib.decDigits cp ++ 33 :: Lib.decDigits cy)))) (43 :: (Lib.decDigits cb ++ 46 :: 46 :: (Lib.decDigits ct ++ 64 :: (Lib.decDigits ca ++ 58 :: (Lib.decDigits cp ++ 33 :: Lib.decDigits cy))))) (by simp) (by first | omega | (simp; omega) | (simp; done)) (by first | omega | (simp; omega) | (simp; done))
    have K1 := Lib.hid k1
    have K2 := Lib.hid k2
    have K3 := Lib.hid k3
    have K4 := Lib.hid k4
    have K5 := Lib.hid k5
    have K6 := Lib.hid k6
    have K7 := Lib.hid k7
    have K8 := Lib.hid k8
    have K9 := Lib.hid k9
    clear k1 k2 k3 k4 k5 k6 k7 k8 k9 lcb lct lca lcp lcy
    go_enter Tryd.func34, Tryd.ntmps34
    go_wp2_with fail
    have k1 := K1.out
    have k2 := K2.out
    have k3 := K3.out
    have k4 := K4.out
    have k5 := K5.out
    have k6 := K6.out
    have hw4 : IntKind.u64.wrap (cp : Int) = (cp : Int) := by rw [IntKind.wrap_u64]; have := H4.out; omega
    have HW4 := Lib.hid hw4
    clear hw4
    go_region_held3 (fun W => W.cell? ⟨w.heap.size, 0, none⟩ = some (.int .u64 cb) ∧ W.cell? ⟨w.heap.size, 1, none⟩ = some (.int .u64 ct) ∧ W.cell? ⟨w.heap.size, 2, none⟩ = some (.int .u64 ca) ∧ W.cell? ⟨w.heap.size, 3, none⟩ = some (.int .i64 cp))
      (first | exact ⟨(hc4 0).trans rfl, (hc4 1).trans rfl, (hc4 2).trans rfl, (hc4 3).trans rfl⟩ | exact ⟨(hc3 0).trans rfl, (hc3 1).trans rfl, (hc3 2).trans rfl, (hc3 3).trans rfl⟩ | exact ⟨(hc2 0).trans rfl, (hc2 1).trans rfl, (hc2 2).trans rfl, (hc2 3).trans rfl⟩ | exact ⟨(hc1 0).trans rfl, (hc1 1).trans rfl, (hc1 2).trans rfl, (hc1 3).trans rfl⟩ | go_keep)
      (first
        | (go_at_call 44; (with_reducible refine (number_any cb cb _ (Nat.le_refl _) H1.out).mono ?_); rintro e w1 ⟨rfl, hb⟩; have HB1 := Lib.hid (bTrans (Below.drew (Below.refl _ _)) hb); have hc1 := boxed HB1.out; clear hb)
        | (go_at_call 44; (with_reducible refine (number_any ct ct _ (Nat.le_refl _) H2.out).mono ?_); rintro e w2 ⟨rfl, hb⟩; have HB2 := Lib.hid (bTrans HB1.out hb); have hc2 := boxed HB2.out; clear hb)
        | (go_at_call 44; (with_reducible refine (number_any ca ca _ (Nat.le_refl _) H3.out).mono ?_); rintro e w3 ⟨rfl, hb⟩; have HB3 := Lib.hid (bTrans HB2.out hb); have hc3 := boxed HB3.out; clear hb)
        | (go_at_call 44; rw [HW4.out]; (with_reducible refine (number_any cp cp _ (Nat.le_refl _) (by have := H4.out; omega)).mono ?_); rintro e w4 ⟨rfl, hb⟩; have HB4 := Lib.hid (bTrans HB3.out hb); have hc4 := boxed HB4.out; clear hb))
    clear k1 k2 k3 k4 k5 k6 hc1 hc2 hc3
    have c4 : w4.cell? ⟨w.heap.size, 4, none⟩ = some (.int .i64 cy) := (hc4 4).trans rfl
    have c5 : w4.cell? ⟨w.heap.size, 5, none⟩ = some (.bool true) := (hc4 5).trans rfl
    clear hc4
    have hd : decide (0 ≤ (cy : Int)) = true := decide_eq_true (by omega)
    have k7 := K7.out; have k8 := K8.out
    go_wp2_with fail
    refine (number_any cy cy _ (Nat.le_refl _) (by omega)).mono ?_; rintro e w5 ⟨rfl, hb⟩
    have HB5 := Lib.hid (bTrans HB4.out hb); have c5 := (boxed HB5.out 5).trans rfl
    have k9 := K9.out
    go_wp2_with fail
    go_ret
    exact ⟨rfl, bTrans (bAlloc (Below.refl _ _) _) HB5.out⟩

end Go.Proofs.YtoijhhacgafblaaDoor
