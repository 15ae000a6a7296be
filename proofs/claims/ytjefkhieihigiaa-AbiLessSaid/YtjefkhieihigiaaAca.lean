/- AbiLess: the walk, where it is built. -/
import Derived.Test.YtjefkhieihigiaaAbZ
namespace Go.Proofs.Ytjefkhieihigiaa
set_option linter.unusedVariables false
set_option linter.unusedSimpArgs false
open Go.Joins Go.ChangeShapes Go.WideShapes Go.ChangeAt Go.RowKit Go.Deep

set_option maxRecDepth 100000 in
set_option maxHeartbeats 4000000 in
theorem less_yes (W : World) (b : Int) (f : Nat) (p : Int) (a1 a2 a3 : Option Addr) (c1 c2 c3 : Nat) (l1 l2 : List (List UInt8)) (k : List Cp) (hf : f < 18446744073709551616) (r1 : Rd W a1 l1.length (strs l1)) (r2 : Rd W a2 l2.length (strs l2)) (r3 : Rd W a3 (k.length * 6) (capsV k)) (hk : k.length ≤ maxLen) (hfit : ∀ c ∈ k, FitC c)
    (hq : (k.all rightB && decide (k.length ≤ 20)) = true) (hbb : badB b = false) (p0 : -9 ≤ p) (p1 : p ≤ 300) (n1 : l1.length ≤ 20) (n2 : l2.length ≤ 20) (he : (buildF (emptyM b.toNat) f p l1 l2 k).2.2 = 0) :
    Calls Try.prog 3 #[.int .i64 b, .int .u64 (f : Int), .int .i64 p, .slice a1 l1.length c1, .slice a2 l2.length c2, .slice a3 k.length c3] W fun e W' => e = .returned (.bool true) ∧ Below W.heap.size W W' := by
  have HA := Lib.hid (awake_any W)
  have HR := Lib.hid (fun w (hb : Below W.heap.size W w) => rights_any a3 c3 k w (r3.below hb) (max_lt3 hk))
  have n3 : k.length ≤ 20 := by rw [Bool.and_eq_true, decide_eq_true_eq] at hq; exact hq.2
  rw [hq] at HR
  have HN := Lib.hid (fun w => snew_any b hbb w)
  obtain ⟨x, y, hx, hy, hfp, hp1, t1, t2, t3, hxy, hxs, e1, e2, hmz⟩ := build_right _ _ _ _ _ _ he
  have HB := Lib.hid (fun (w : World) (M : Nat) (F : Nat → Prop) (hb : Below W.heap.size W w) (h : Own1 w W.heap.size F M (emptyM b.toNat)) => build_any w W.heap.size M F (emptyM b.toNat) f p a1 a2 a3 c1 c2 c3 l1 l2 k h (RdT.old h r1 hb rfl) (RdT.old h r2 hb rfl) (RdC.old h r3 hb rfl) hf (by omega) (by omega) (by omega) (by omega) (by omega) hfit)
  rw [e2, he] at HB
  generalize (buildF (emptyM b.toNat) f p l1 l2 k).1 = mm at HB
  unfold startS at HB
  simp only [] at HB
  generalize listN x l1 l2 = s at *
  have d1 : decide (p < -9) = false := decide_eq_false (by omega)
  have d2 : decide (300 < p) = false := decide_eq_false (by omega)
  have d3 : decide ((20 : Int) < (l1.length : Int)) = false := decide_eq_false (by omega)
  have d4 : decide ((20 : Int) < (l2.length : Int)) = false := decide_eq_false (by omega)
  generalize l1.length = m1 at *
  generalize l2.length = m2 at *
  generalize k.length = m3 at *
  obtain ⟨sa, hsa⟩ : ∃ sa, s + 32 * m1 = sa := ⟨_, rfl⟩
  obtain ⟨u, hu⟩ : ∃ u, s + 32 * (m1 + 1) = u := ⟨_, rfl⟩
  rw [hsa, hu] at HB
  obtain ⟨ua, hua⟩ : ∃ ua, u + 32 * m2 = ua := ⟨_, rfl⟩
  obtain ⟨v, hv⟩ : ∃ v, u + 32 * (m2 + 1) = v := ⟨_, rfl⟩
  rw [hua, hv] at HB
  obtain ⟨va, hva⟩ : ∃ va, v + 32 * m3 = va := ⟨_, rfl⟩
  obtain ⟨z, hz⟩ : ∃ z, v + 32 * (m3 + 1) = z := ⟨_, rfl⟩
  rw [hva, hz] at HB
  have w0 : IntKind.u64.wrap p = p := by rw [IntKind.wrap_u64]; omega
  have w1 : IntKind.u64.wrap ((f : Int) + p) = (f : Int) + p := by rw [IntKind.wrap_u64]; omega
  have w2 : IntKind.u64.wrap (256 * (f : Int)) = (x : Int) := by rw [IntKind.wrap_u64]; omega
  have w3 : IntKind.u64.wrap (256 * ((f : Int) + p)) = (y : Int) := by rw [IntKind.wrap_u64]; omega
  have w4 : IntKind.u64.wrap ((y : Int) - (z : Int)) = (y : Int) - (z : Int) := by rw [IntKind.wrap_u64]; omega
  have HW := Lib.hid (And.intro w0 (And.intro w1 (And.intro w2 (And.intro w3 w4))))
  have k0 : decide ((z : Int) < (x : Int)) = false := decide_eq_false (by omega)
  have k1 : decide ((y : Int) < (y : Int)) = false := decide_eq_false (by omega)
  have k2 : decide ((s : Int) < (x : Int)) = false := decide_eq_false (by omega)
  have k3 : decide ((y : Int) < (sa : Int)) = false := decide_eq_false (by omega)
  have k4 : decide ((u : Int) < (x : Int)) = false := decide_eq_false (by omega)
  have k5 : decide ((y : Int) < (ua : Int)) = false := decide_eq_false (by omega)
  have k6 : decide ((v : Int) < (x : Int)) = false := decide_eq_false (by omega)
  have k7 : decide ((y : Int) < (va : Int)) = false := decide_eq_false (by omega)
  have k8 : decide ((sa : Int) < (u : Int)) = true := decide_eq_true (by omega)
  have k9 : decide ((ua : Int) < (v : Int)) = true := decide_eq_true (by omega)
  have k10 : decide ((va : Int) < (z : Int)) = true := decide_eq_true (by omega)
  have k11 : decide ((64 : Int) ≤ (y : Int) - (z : Int)) = true := decide_eq_true (by omega)
  have HK := Lib.hid (And.intro k0 (And.intro k1 (And.intro k2 (And.intro k3 (And.intro k4 (And.intro k5 (And.intro k6 (And.intro k7 (And.intro k8 (And.intro k9 (And.intro k10 k11)))))))))))
  have nn0 : x ≤ z := by omega
  have nn1 : x ≤ s := by omega
  have nn2 : sa ≤ y := by omega
  have nn3 : x ≤ u := by omega
  have nn4 : ua ≤ y := by omega
  have nn5 : x ≤ v := by omega
  have nn6 : va ≤ y := by omega
  have nn7 : sa < u := by omega
  have nn8 : ua < v := by omega
  have nn9 : va < z := by omega
  have HNN := Lib.hid (And.intro nn0 (And.intro nn1 (And.intro nn2 (And.intro nn3 (And.intro nn4 (And.intro nn5 (And.intro nn6 (And.intro nn7 (And.intro nn8 nn9)))))))))
  clear nn0 nn1 nn2 nn3 nn4 nn5 nn6 nn7 nn8 nn9 w0 w1 w2 w3 w4 k0 k1 k2 k3 k4 k5 k6 k7 k8 k9 k10 k11 hsa hu hua hv hva hz hxs hxy
  clear r1 r2 r3 hk hfit hq hbb p0 p1 n1 n2 n3 e1 e2 he hf t1 t2 t3 hmz hx hy hfp hp1
  go_enter Try.func3, Try.ntmps3
  go_wp2_with fail
  refine HA.out.mono ?_; rintro e W1 ⟨rfl, hb1⟩
  have B1 := Lib.hid hb1
  clear hb1 HA
  go_wp2_with fail
  refine (HR.out W1 B1.out).mono ?_; rintro e W2 ⟨rfl, hb⟩
  have B2 := Lib.hid (bTrans B1.out hb)
  clear hb HR B1
  go_wp2_with fail
  refine (HN.out W2).mono ?_; rintro e W3 ⟨M, F, rfl, h3, hb⟩
  have O3 := Lib.hid (show Own1 W3 W.heap.size F M (emptyM b.toNat) from ⟨h3.mem, fun q hq => Nat.le_trans B2.out.size (h3.ge q hq), Nat.le_trans B2.out.size h3.sz⟩)
  have B3 := Lib.hid (bTrans B2.out hb)
  clear hb HN B2 h3
  go_wp2_with fail
  refine (HB.out W3 M F B3.out O3.out).mono ?_; rintro e W4 ⟨rfl, F', h4, mv⟩
  have O4 := Lib.hid h4
  have B4 := Lib.hid (B3.out.trans (mv.belowN O3.out))
  clear h4 mv O3 B3 HB
  obtain ⟨S, hS⟩ : ∃ S : St, (⟨⟨(z : Nat), (y : Nat), (y : Nat), 27, -1, true⟩, spanC (s : Nat) ((sa : Nat) : Int) 9, spanC (u : Nat) ((ua : Nat) : Int) 9, spanC (v : Nat) ((va : Nat) : Int) 9⟩ : St) = S := ⟨_, rfl⟩
  rw [hS]
  obtain ⟨V, hV⟩ : ∃ V, startV S = V := ⟨_, rfl⟩
  rw [hV]
  simp only []
  go_at_K
  rename_i hK
  refine hK _ _ ?_
  clear hK
  have hv1 : V.size = 24 := by rw [← hV]; rfl
  have hv2 : V.all (·.oneCell') = true := by rw [← hV]; kernel_rfl
  refine Great.wpList_readTo rfl (some 55) rfl (.tuple #[.agg V, .int .i64 0]) rfl ?_
  refine Great.wpList_readTo rfl (some 63) rfl (.agg V) rfl ?_
  refine Great.wpList_readTo rfl (some 64) rfl (.int .i64 0) rfl ?_
  refine Great.wpList_allocTo rfl (some 17) rfl (.pointer (some ⟨W4.heap.size, 0, none⟩)) (.cells zero24 34) (by kernel_rfl) ?_
  refine wpList_store_mid rfl _ _ _ rfl W4.heap.size 0 V rfl rfl (by rw [hv1]; exact (BoxN.new W4 zero24 34).there) (by rw [hv1]; exact startSize) hv2 ?_
  have hz := box_new W4 V hv1
  have hb5 : Below W4.heap.size W4 ((W4.alloc (.cells zero24 34)).setCells W4.heap.size 0 V.toList) := below_setCells _ (Nat.le_refl _) _ _ _ (bAlloc (Below.refl _ _) _)
  obtain ⟨W5, hW5⟩ : ∃ W5, (W4.alloc (.cells zero24 34)).setCells W4.heap.size 0 V.toList = W5 := ⟨_, rfl⟩
  rw [hW5] at hz hb5
  (try rw [hW5])
  clear hW5 hv1 hv2
  have B5 := Lib.hid (B4.out.trans (hb5.mono B4.out.size))
  have HZ := Lib.hid hz
  clear hz hb5 O4 B4
  have hst := start_any S W5
  rw [hV] at hst
  have HST := Lib.hid hst
  clear hst
  have hr5 : W5.rangeAt W4.heap.size 0 V.toList := fun j v hv => by rw [Nat.zero_add, HZ.out.cell j]; simpa using hv
  have hl5 : V.toList.length = 24 := by rw [← hV]; rfl
  have HR5 := Lib.hid hr5
  have HL5 := Lib.hid hl5
  clear hr5 hl5
  go_upto_region 10 with fail
  apply wp_region_lit
  refine wpList_load_mid rfl _ _ rfl W4.heap.size 0 rfl V.toList _ HR5.out Try.underlying34 rfl (by rw [HL5.out]; exact startSize) ?_
  rw [Array.toArray_toList]
  go_wp2_with fail
  refine HST.out.mono ?_; rintro e W6 ⟨rfl, hw6⟩
  have hl6 : BoxN W6 (W5.heap.size + 1) V := by rw [hw6]; have := BoxN.new (W5.alloc (.cells V 34)) V 32; rwa [size_alloc] at this
  have hb6 : Below W5.heap.size W5 W6 := by rw [hw6]; exact bAlloc (bAlloc (Below.refl _ _) _) _
  obtain ⟨L, hL⟩ : ∃ L, W5.heap.size + 1 = L := ⟨_, rfl⟩
  rw [hL] at hl6 ⊢
  have L6 := hl6
  rw [← hV, ← hS] at L6
  have B6 := Lib.hid (B5.out.trans (hb6.mono B5.out.size))
  have Z6 := Lib.hid (boxN_below HZ.out hb6)
  have q0 : W6.cell? ⟨L, 0, none⟩ = some (.int .u64 (z : Int)) := L6.cell 0
  have q1 : W6.cell? ⟨L, 1, none⟩ = some (.int .u64 (y : Int)) := L6.cell 1
  have q2 : W6.cell? ⟨L, 2, none⟩ = some (.int .u64 (y : Int)) := L6.cell 2
  have q3 : W6.cell? ⟨L, 3, none⟩ = some (.int .i64 27) := L6.cell 3
  have q4 : W6.cell? ⟨L, 4, none⟩ = some (.int .i64 (-1)) := L6.cell 4
  have q5 : W6.cell? ⟨L, 5, none⟩ = some (.bool true) := L6.cell 5
  have q6 : W6.cell? ⟨L, 6, none⟩ = some (.int .u64 (s : Int)) := L6.cell 6
  have q7 : W6.cell? ⟨L, 7, none⟩ = some (.int .u64 (sa : Int)) := L6.cell 7
  have q8 : W6.cell? ⟨L, 8, none⟩ = some (.int .u64 (s : Int)) := L6.cell 8
  have q9 : W6.cell? ⟨L, 9, none⟩ = some (.int .i64 9) := L6.cell 9
  have q10 : W6.cell? ⟨L, 10, none⟩ = some (.int .i64 (-1)) := L6.cell 10
  have q11 : W6.cell? ⟨L, 11, none⟩ = some (.bool true) := L6.cell 11
  have q12 : W6.cell? ⟨L, 12, none⟩ = some (.int .u64 (u : Int)) := L6.cell 12
  have q13 : W6.cell? ⟨L, 13, none⟩ = some (.int .u64 (ua : Int)) := L6.cell 13
  have q14 : W6.cell? ⟨L, 14, none⟩ = some (.int .u64 (u : Int)) := L6.cell 14
  have q15 : W6.cell? ⟨L, 15, none⟩ = some (.int .i64 9) := L6.cell 15
  have q16 : W6.cell? ⟨L, 16, none⟩ = some (.int .i64 (-1)) := L6.cell 16
  have q17 : W6.cell? ⟨L, 17, none⟩ = some (.bool true) := L6.cell 17
  have q18 : W6.cell? ⟨L, 18, none⟩ = some (.int .u64 (v : Int)) := L6.cell 18
  have q19 : W6.cell? ⟨L, 19, none⟩ = some (.int .u64 (va : Int)) := L6.cell 19
  have q20 : W6.cell? ⟨L, 20, none⟩ = some (.int .u64 (v : Int)) := L6.cell 20
  have q21 : W6.cell? ⟨L, 21, none⟩ = some (.int .i64 9) := L6.cell 21
  have q22 : W6.cell? ⟨L, 22, none⟩ = some (.int .i64 (-1)) := L6.cell 22
  have q23 : W6.cell? ⟨L, 23, none⟩ = some (.bool true) := L6.cell 23
  obtain ⟨w0, w1, w2, w3, w4⟩ := HW.out
  obtain ⟨k0, k1, k2, k3, k4, k5, k6, k7, k8, k9, k10, k11⟩ := HK.out
  obtain ⟨nn0, nn1, nn2, nn3, nn4, nn5, nn6, nn7, nn8, nn9⟩ := HNN.out
  clear hl6 hb6 hL L6 hw6 HR5 HL5 HST HZ B5
  go_wp2_with fail
  go_loopw [21] (fun i wr => ∃ q : Nat, i = .int .i64 (q : Int) ∧ q ≤ 4 ∧ W6 = wr) (fun i _ => 4 - (intOf i).toNat)
  case atStart => exact ⟨0, rfl, by omega, rfl⟩
  case round =>
    obtain ⟨q, rfl, hq, rfl⟩ := hrel
    have b1 : bits .and .i64 27 228 = 0 := by decide +kernel
    have b2 : bits .and .i64 9 228 = 0 := by decide +kernel
    have b3 : bits .and .i64 27 2 = 2 := by decide +kernel
    have b4 : bits .and .i64 9 2 = 0 := by decide +kernel
    rcases (by omega : q = 0 ∨ q = 1 ∨ q = 2 ∨ q = 3 ∨ q = 4) with rfl | rfl | rfl | rfl | rfl
    · rw [show ((0 : Nat) : Int) = 0 from rfl]
      go_wp2_with fail
      go_roundw
      case rel => exact ⟨1, rfl, by omega, trivial⟩
      case measure => simp [intOf]
    · rw [show ((1 : Nat) : Int) = 1 from rfl]
      go_wp2_with fail
      go_roundw
      case rel => exact ⟨2, rfl, by omega, trivial⟩
      case measure => simp [intOf]
    · rw [show ((2 : Nat) : Int) = 2 from rfl]
      go_wp2_with fail
      go_roundw
      case rel => exact ⟨3, rfl, by omega, trivial⟩
      case measure => simp [intOf]
    · rw [show ((3 : Nat) : Int) = 3 from rfl]
      go_wp2_with fail
      go_roundw
      case rel => exact ⟨4, rfl, by omega, trivial⟩
      case measure => simp [intOf]
    · rw [show ((4 : Nat) : Int) = 4 from rfl]
      have Z := Z6.out
      rw [← hV, ← hS] at Z
      have o0 : W6.cell? ⟨W4.heap.size, 0, none⟩ = some (.int .u64 (z : Int)) := Z.cell 0
      have o1 : W6.cell? ⟨W4.heap.size, 1, none⟩ = some (.int .u64 (y : Int)) := Z.cell 1
      have o2 : W6.cell? ⟨W4.heap.size, 2, none⟩ = some (.int .u64 (y : Int)) := Z.cell 2
      have o3 : W6.cell? ⟨W4.heap.size, 3, none⟩ = some (.int .i64 27) := Z.cell 3
      have o4 : W6.cell? ⟨W4.heap.size, 4, none⟩ = some (.int .i64 (-1)) := Z.cell 4
      have o5 : W6.cell? ⟨W4.heap.size, 5, none⟩ = some (.bool true) := Z.cell 5
      have o6 : W6.cell? ⟨W4.heap.size, 6, none⟩ = some (.int .u64 (s : Int)) := Z.cell 6
      have o7 : W6.cell? ⟨W4.heap.size, 7, none⟩ = some (.int .u64 (sa : Int)) := Z.cell 7
      have o8 : W6.cell? ⟨W4.heap.size, 8, none⟩ = some (.int .u64 (s : Int)) := Z.cell 8
      have o9 : W6.cell? ⟨W4.heap.size, 9, none⟩ = some (.int .i64 9) := Z.cell 9
      have o10 : W6.cell? ⟨W4.heap.size, 10, none⟩ = some (.int .i64 (-1)) := Z.cell 10
      have o11 : W6.cell? ⟨W4.heap.size, 11, none⟩ = some (.bool true) := Z.cell 11
      have o12 : W6.cell? ⟨W4.heap.size, 12, none⟩ = some (.int .u64 (u : Int)) := Z.cell 12
      have o13 : W6.cell? ⟨W4.heap.size, 13, none⟩ = some (.int .u64 (ua : Int)) := Z.cell 13
      have o14 : W6.cell? ⟨W4.heap.size, 14, none⟩ = some (.int .u64 (u : Int)) := Z.cell 14
      have o15 : W6.cell? ⟨W4.heap.size, 15, none⟩ = some (.int .i64 9) := Z.cell 15
      have o16 : W6.cell? ⟨W4.heap.size, 16, none⟩ = some (.int .i64 (-1)) := Z.cell 16
      have o17 : W6.cell? ⟨W4.heap.size, 17, none⟩ = some (.bool true) := Z.cell 17
      have o18 : W6.cell? ⟨W4.heap.size, 18, none⟩ = some (.int .u64 (v : Int)) := Z.cell 18
      have o19 : W6.cell? ⟨W4.heap.size, 19, none⟩ = some (.int .u64 (va : Int)) := Z.cell 19
      have o20 : W6.cell? ⟨W4.heap.size, 20, none⟩ = some (.int .u64 (v : Int)) := Z.cell 20
      have o21 : W6.cell? ⟨W4.heap.size, 21, none⟩ = some (.int .i64 9) := Z.cell 21
      have o22 : W6.cell? ⟨W4.heap.size, 22, none⟩ = some (.int .i64 (-1)) := Z.cell 22
      have o23 : W6.cell? ⟨W4.heap.size, 23, none⟩ = some (.bool true) := Z.cell 23
      clear Z q0 q1 q2 q3 q4 q5 q6 q7 q8 q9 q10 q11 q12 q13 q14 q15 q16 q17 q18 q19 q20 q21 q22 q23
      go_wp2_with fail
      go_ret
      exact ⟨by simp, B6.out⟩
end Go.Proofs.Ytjefkhieihigiaa
