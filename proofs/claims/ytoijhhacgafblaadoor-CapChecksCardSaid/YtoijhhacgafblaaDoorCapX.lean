/- A sealed capability's text. -/
import Derived.Test.YtoijhhacgafblaaDoorCapT
namespace Go.Proofs.YtoijhhacgafblaaDoor
set_option linter.unusedVariables false
set_option linter.unusedSimpArgs false
open Go.ChangeShapes Go.WideShapes Go.ChangeAt Go.RowKit

def textS (g : Bool) (b t a p y : Nat) : List UInt8 := (if g then 43 else 45) :: (Lib.decDigits b ++ 46 :: 46 :: (Lib.decDigits t ++ 64 :: (Lib.decDigits a ++ 58 :: (Lib.decDigits p ++ 33 :: Lib.decDigits y))))
theorem text_seal (cb ct ca cp cy : Nat) (cg : Bool) (w : World) (htab : Tab w.heap.size w) (h1 : cb < 18446744073709551616) (h2 : ct < 18446744073709551616) (h3 : ca < 18446744073709551616) (h4 : cp < 256) (hy : cy < 64) :
    Calls Tryd.prog 31 #[.agg #[.int .u64 cb, .int .u64 ct, .int .u64 ca, .int .i64 cp, .int .i64 cy, .bool cg]] w fun e w' => e = .returned (.string ⟨(textS cg cb ct ca cp cy).toArray⟩) ∧ Below w.heap.size w w' := by
  have HT := Lib.hid htab
  have H1 := Lib.hid h1
  have H2 := Lib.hid h2
  have H3 := Lib.hid h3
  have H4 := Lib.hid h4
  clear htab h1 h2 h3 h4
  cases cg
  · go_enter Tryd.func31, Tryd.ntmps31
    go_wp2_with fail
    have l1 := dec_len cb H1.out
    have l2 := dec_len ct H2.out
    have l3 := dec_len ca H3.out
    have l4 := dec_len cp (by have := H4.out; omega)
    have k1 := add_l (Lib.decDigits cb) [46, 46] (Lib.decDigits cb ++ [46, 46]) (by simp) (by first | omega | (simp; omega)) (by first | omega | (simp; done))
    have k2 := add_l (Lib.decDigits cb ++ [46, 46]) (Lib.decDigits ct) (Lib.decDigits cb ++ 46 :: 46 :: Lib.decDigits ct) (by simp) (by first | omega | (simp; omega)) (by first | omega | (simp; done))
    have k3 := add_l (Lib.decDigits cb ++ 46 :: 46 :: Lib.decDigits ct) [64] (Lib.decDigits cb ++ 46 :: 46 :: (Lib.decDigits ct ++ [64])) (by simp) (by first | omega | (simp; omega)) (by first | omega | (simp; done))
    have k4 := add_l (Lib.decDigits cb ++ 46 :: 46 :: (Lib.decDigits ct ++ [64])) (Lib.decDigits ca) (Lib.decDigits cb ++ 46 :: 46 :: (Lib.decDigits ct ++ 64 :: Lib.decDigits ca)) (by simp) (by first | omega | (simp; omega)) (by first | omega | (simp; done))
    have k5 := add_l (Lib.decDigits cb ++ 46 :: 46 :: (Lib.decDigits ct ++ 64 :: Lib.decDigits ca)) [58] (Lib.decDigits cb ++ 46 :: 46 :: (Lib.decDigits ct ++ 64 :: (Lib.decDigits ca ++ [58]))) (by simp) (by first | omega | (simp; omega)) (by first | omega | (simp; done))
    have k6 := add_l (Lib.decDigits cb ++ 46 :: 46 :: (Lib.decDigits ct ++ 64 :: (Lib.decDigits ca ++ [58]))) (Lib.decDigits cp) (Lib.decDigits cb ++ 46 :: 46 :: (Lib.decDigits ct ++ 64 :: (Lib.decDigits ca ++ 58 :: Lib.decDigits cp))) (by simp) (by first | omega | (simp; omega)) (by first | omega | (simp; done))
    have k7 := add_l [45] (Lib.decDigits cb ++ 46 :: 46 :: (Lib.decDigits ct ++ 64 :: (Lib.decDigits ca ++ 58 :: Lib.decDigits cp))) (45 :: (Lib.decDigits cb ++ 46 :: 46 :: (Lib.decDigits ct ++ 64 :: (Lib.decDigits ca ++ 58 :: Lib.decDigits cp)))) (by simp) (by simp) (by simp; omega)
    have l5 := dec_len cy (by omega)
    have k8 := add_l [33] (Lib.decDigits cy) (33 :: Lib.decDigits cy) (by simp) (by simp) (by omega)
    have k9 := add_l (45 :: (Lib.decDigits cb ++ 46 :: 46 :: (Lib.decDigits ct ++ 64 :: (Lib.decDigits ca ++ 58 :: Lib.decDigits cp)))) (33 :: Lib.decDigits cy) (45 :: (Lib.decDigits cb ++ 46 :: 46 :: (Lib.decDigits ct ++ 64 :: (Lib.decDigits ca ++ 58 :: Lib.decDigits cp))) ++ 33 :: Lib.decDigits cy) rfl (by simp; omega) (by simp; omega)
    have K8 := Lib.hid k8
    have K9 := Lib.hid k9
    clear l1 l2 l3 l4 l5 k8 k9
    have HT0 := Lib.hid (tab_on HT.out (bAlloc (Below.refl _ _) (.cells #[.int .u64 cb, .int .u64 ct, .int .u64 ca, .int .i64 cp, .int .i64 cy, .bool false] 24)))
    go_region_held3 (fun W => W.cell? ⟨w.heap.size, 0, none⟩ = some (.int .u64 cb) ∧ W.cell? ⟨w.heap.size, 1, none⟩ = some (.int .u64 ct) ∧ W.cell? ⟨w.heap.size, 2, none⟩ = some (.int .u64 ca) ∧ W.cell? ⟨w.heap.size, 3, none⟩ = some (.int .i64 cp))
      (first | exact ⟨(hc4 0).trans rfl, (hc4 1).trans rfl, (hc4 2).trans rfl, (hc4 3).trans rfl⟩ | exact ⟨(hc3 0).trans rfl, (hc3 1).trans rfl, (hc3 2).trans rfl, (hc3 3).trans rfl⟩ | exact ⟨(hc2 0).trans rfl, (hc2 1).trans rfl, (hc2 2).trans rfl, (hc2 3).trans rfl⟩ | exact ⟨(hc1 0).trans rfl, (hc1 1).trans rfl, (hc1 2).trans rfl, (hc1 3).trans rfl⟩ | go_keep)
      (first
        | (go_at_call 42; (with_reducible refine (dec_any cb H1.out _ (tab_on HT0.out (Below.drew (Below.refl _ _)))).mono ?_); rintro e w1 ⟨rfl, hb⟩; have HB1 := Lib.hid (bTrans (Below.drew (Below.refl _ _)) hb); have hc1 := boxed HB1.out; clear hb)
        | (go_at_call 42; (with_reducible refine (dec_any ct H2.out _ (tab_on HT0.out HB1.out)).mono ?_); rintro e w2 ⟨rfl, hb⟩; have HB2 := Lib.hid (bTrans HB1.out hb); have hc2 := boxed HB2.out; clear hb)
        | (go_at_call 42; (with_reducible refine (dec_any ca H3.out _ (tab_on HT0.out HB2.out)).mono ?_); rintro e w3 ⟨rfl, hb⟩; have HB3 := Lib.hid (bTrans HB2.out hb); have hc3 := boxed HB3.out; clear hb)
        | (go_at_call 43; (with_reducible refine (itoa_any cp H4.out _ (tab_on HT0.out HB3.out)).mono ?_); rintro e w4 ⟨rfl, hb⟩; have HB4 := Lib.hid (bTrans HB3.out hb); have hc4 := boxed HB4.out; clear hb))
    clear k1 k2 k3 k4 k5 k6 k7 hc1 hc2 hc3
    go_wp2_with fail
    have hseal : decide (0 ≤ (cy : Int)) = true := decide_eq_true (by omega)
    refine (sealed_any _ _ _ _ _ _ _).mono ?_; rintro e w5 ⟨rfl, rfl⟩
    have c4 : (w4.alloc (.cells #[.int .u64 cb, .int .u64 ct, .int .u64 ca, .int .i64 cp, .int .i64 cy, .bool false] 24)).cell? ⟨w.heap.size, 4, none⟩ = some (.int .i64 cy) := (boxed (bAlloc HB4.out _) 4).trans rfl
    have k8 := K8.out
    have k9 := K9.out
    go_wp2_with (go_at_call 43; refine (itoa_any cy (by omega) _ (tab_on HT0.out (bAlloc HB4.out _))).mono ?_; rintro e w6 ⟨rfl, hb⟩; have HB5 := Lib.hid (bTrans (bAlloc HB4.out _) hb); clear hb)
    go_ret
    exact ⟨rfl, bTrans (bAlloc (Below.refl _ _) _) HB5.out⟩
  · go_enter Tryd.func31, Tryd.ntmps31
    go_wp2_with fail
    have l1 := dec_len cb H1.out
    have l2 := dec_len ct H2.out
    have l3 := dec_len ca H3.out
    have l4 := dec_len cp (by have := H4.out; omega)
    have k1 := add_l (Lib.decDigits cb) [46, 46] (Lib.decDigits cb ++ [46, 46]) (by simp) (by first | omega | (simp; omega)) (by first | omega | (simp; done))
    have k2 := add_l (Lib.decDigits cb ++ [46, 46]) (Lib.decDigits ct) (Lib.decDigits cb ++ 46 :: 46 :: Lib.decDigits ct) (by simp) (by first | omega | (simp; omega)) (by first | omega | (simp; done))
    have k3 := add_l (Lib.decDigits cb ++ 46 :: 46 :: Lib.decDigits ct) [64] (Lib.decDigits cb ++ 46 :: 46 :: (Lib.decDigits ct ++ [64])) (by simp) (by first | omega | (simp; omega)) (by first | omega | (simp; done))
    have k4 := add_l (Lib.decDigits cb ++ 46 :: 46 :: (Lib.decDigits ct ++ [64])) (Lib.decDigits ca) (Lib.decDigits cb ++ 46 :: 46 :: (Lib.decDigits ct ++ 64 :: Lib.decDigits ca)) (by simp) (by first | omega | (simp; omega)) (by first | omega | (simp; done))
    have k5 := add_l (Lib.decDigits cb ++ 46 :: 46 :: (Lib.decDigits ct ++ 64 :: Lib.decDigits ca)) [58] (Lib.decDigits cb ++ 46 :: 46 :: (Lib.decDigits ct ++ 64 :: (Lib.decDigits ca ++ [58]))) (by simp) (by first | omega | (simp; omega)) (by first | omega | (simp; done))
    have k6 := add_l (Lib.decDigits cb ++ 46 :: 46 :: (Lib.decDigits ct ++ 64 :: (Lib.decDigits ca ++ [58]))) (Lib.decDigits cp) (Lib.decDigits cb ++ 46 :: 46 :: (Lib.decDigits ct ++ 64 :: (Lib.decDigits ca ++ 58 :: Lib.decDigits cp))) (by simp) (by first | omega | (simp; omega)) (by first | omega | (simp; done))
    have k7 := add_l [43] (Lib.decDigits cb ++ 46 :: 46 :: (Lib.decDigits ct ++ 64 :: (Lib.decDigits ca ++ 58 :: Lib.decDigits cp))) (43 :: (Lib.decDigits cb ++ 46 :: 46 :: (Lib.decDigits ct ++ 64 :: (Lib.decDigits ca ++ 58 :: Lib.decDigits cp)))) (by simp) (by simp) (by simp; omega)
    have l5 := dec_len cy (by omega)
    have k8 := add_l [33] (Lib.decDigits cy) (33 :: Lib.decDigits cy) (by simp) (by simp) (by omega)
    have k9 := add_l (43 :: (Lib.decDigits cb ++ 46 :: 46 :: (Lib.decDigits ct ++ 64 :: (Lib.decDigits ca ++ 58 :: Lib.decDigits cp)))) (33 :: Lib.decDigits cy) (43 :: (Lib.decDigits cb ++ 46 :: 46 :: (Lib.decDigits ct ++ 64 :: (Lib.decDigits ca ++ 58 :: Lib.decDigits cp))) ++ 33 :: Lib.decDigits cy) rfl (by simp; omega) (by simp; omega)
    have K8 := Lib.hid k8
    have K9 := Lib.hid k9
    clear l1 l2 l3 l4 l5 k8 k9
    have HT0 := Lib.hid (tab_on HT.out (bAlloc (Below.refl _ _) (.cells #[.int .u64 cb, .int .u64 ct, .int .u64 ca, .int .i64 cp, .int .i64 cy, .bool true] 24)))
    go_region_held3 (fun W => W.cell? ⟨w.heap.size, 0, none⟩ = some (.int .u64 cb) ∧ W.cell? ⟨w.heap.size, 1, none⟩ = some (.int .u64 ct) ∧ W.cell? ⟨w.heap.size, 2, none⟩ = some (.int .u64 ca) ∧ W.cell? ⟨w.heap.size, 3, none⟩ = some (.int .i64 cp))
      (first | exact ⟨(hc4 0).trans rfl, (hc4 1).trans rfl, (hc4 2).trans rfl, (hc4 3).trans rfl⟩ | exact ⟨(hc3 0).trans rfl, (hc3 1).trans rfl, (hc3 2).trans rfl, (hc3 3).trans rfl⟩ | exact ⟨(hc2 0).trans rfl, (hc2 1).trans rfl, (hc2 2).trans rfl, (hc2 3).trans rfl⟩ | exact ⟨(hc1 0).trans rfl, (hc1 1).trans rfl, (hc1 2).trans rfl, (hc1 3).trans rfl⟩ | go_keep)
      (first
        | (go_at_call 42; (with_reducible refine (dec_any cb H1.out _ (tab_on HT0.out (Below.drew (Below.refl _ _)))).mono ?_); rintro e w1 ⟨rfl, hb⟩; have HB1 := Lib.hid (bTrans (Below.drew (Below.refl _ _)) hb); have hc1 := boxed HB1.out; clear hb)
        | (go_at_call 42; (with_reducible refine (dec_any ct H2.out _ (tab_on HT0.out HB1.out)).mono ?_); rintro e w2 ⟨rfl, hb⟩; have HB2 := Lib.hid (bTrans HB1.out hb); have hc2 := boxed HB2.out; clear hb)
        | (go_at_call 42; (with_reducible refine (dec_any ca H3.out _ (tab_on HT0.out HB2.out)).mono ?_); rintro e w3 ⟨rfl, hb⟩; have HB3 := Lib.hid (bTrans HB2.out hb); have hc3 := boxed HB3.out; clear hb)
        | (go_at_call 43; (with_reducible refine (itoa_any cp H4.out _ (tab_on HT0.out HB3.out)).mono ?_); rintro e w4 ⟨rfl, hb⟩; have HB4 := Lib.hid (bTrans HB3.out hb); have hc4 := boxed HB4.out; clear hb))
    clear k1 k2 k3 k4 k5 k6 k7 hc1 hc2 hc3
    go_wp2_with fail
    have hseal : decide (0 ≤ (cy : Int)) = true := decide_eq_true (by omega)
    refine (sealed_any _ _ _ _ _ _ _).mono ?_; rintro e w5 ⟨rfl, rfl⟩
    have c4 : (w4.alloc (.cells #[.int .u64 cb, .int .u64 ct, .int .u64 ca, .int .i64 cp, .int .i64 cy, .bool true] 24)).cell? ⟨w.heap.size, 4, none⟩ = some (.int .i64 cy) := (boxed (bAlloc HB4.out _) 4).trans rfl
    have k8 := K8.out
    have k9 := K9.out
    go_wp2_with (go_at_call 43; refine (itoa_any cy (by omega) _ (tab_on HT0.out (bAlloc HB4.out _))).mono ?_; rintro e w6 ⟨rfl, hb⟩; have HB5 := Lib.hid (bTrans (bAlloc HB4.out _) hb); clear hb)
    go_ret
    exact ⟨rfl, bTrans (bAlloc (Below.refl _ _) _) HB5.out⟩
end Go.Proofs.YtoijhhacgafblaaDoor
