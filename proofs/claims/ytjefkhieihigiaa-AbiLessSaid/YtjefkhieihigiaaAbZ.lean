/- AbiLess: the walk, where Build fails. -/
import Derived.Test.YtjefkhieihigiaaAbY
namespace Go.Proofs.Ytjefkhieihigiaa
set_option linter.unusedVariables false
set_option linter.unusedSimpArgs false
open Go.Joins Go.ChangeShapes Go.WideShapes Go.ChangeAt Go.RowKit Go.Deep

set_option maxRecDepth 100000 in
set_option maxHeartbeats 4000000 in
theorem less_err (W : World) (b : Int) (f : Nat) (p : Int) (a1 a2 a3 : Option Addr) (c1 c2 c3 : Nat) (l1 l2 : List (List UInt8)) (k : List Cp) (hf : f < 18446744073709551616) (r1 : Rd W a1 l1.length (strs l1)) (r2 : Rd W a2 l2.length (strs l2)) (r3 : Rd W a3 (k.length * 6) (capsV k)) (hk : k.length ≤ maxLen) (hfit : ∀ c ∈ k, FitC c)
    (hq : (k.all rightB && decide (k.length ≤ 20)) = true) (hbb : badB b = false) (p0 : -9 ≤ p) (p1 : p ≤ 300) (n1 : l1.length ≤ 20) (n2 : l2.length ≤ 20) (he : (buildF (emptyM b.toNat) f p l1 l2 k).2.2 ≠ 0) :
    Calls Try.prog 3 #[.int .i64 b, .int .u64 (f : Int), .int .i64 p, .slice a1 l1.length c1, .slice a2 l2.length c2, .slice a3 k.length c3] W fun e W' => e = .returned (.bool true) ∧ Below W.heap.size W W' := by
  have HA := Lib.hid (awake_any W)
  have HR := Lib.hid (fun w (hb : Below W.heap.size W w) => rights_any a3 c3 k w (r3.below hb) (max_lt3 hk))
  have n3 : k.length ≤ 20 := by rw [Bool.and_eq_true, decide_eq_true_eq] at hq; exact hq.2
  rw [hq] at HR
  have HN := Lib.hid (fun w => snew_any b hbb w)
  obtain ⟨e1, e2⟩ := build_fails _ _ _ _ _ _ he
  obtain ⟨er, her⟩ : ∃ er, (buildF (emptyM b.toNat) f p l1 l2 k).2.2 = er := ⟨_, rfl⟩
  have HB := Lib.hid (fun (w : World) (M : Nat) (F : Nat → Prop) (hb : Below W.heap.size W w) (h : Own1 w W.heap.size F M (emptyM b.toNat)) => build_any w W.heap.size M F (emptyM b.toNat) f p a1 a2 a3 c1 c2 c3 l1 l2 k h (RdT.old h r1 hb rfl) (RdT.old h r2 hb rfl) (RdC.old h r3 hb rfl) hf (by omega) (by omega) (by omega) (by omega) (by omega) hfit)
  rw [e1, e2, her, startV_no] at HB
  rw [her] at he
  have HE := Lib.hid he
  have d1 : decide (p < -9) = false := decide_eq_false (by omega)
  have d2 : decide (300 < p) = false := decide_eq_false (by omega)
  have d3 : decide ((20 : Int) < (l1.length : Int)) = false := decide_eq_false (by omega)
  have d4 : decide ((20 : Int) < (l2.length : Int)) = false := decide_eq_false (by omega)
  generalize l1.length = m1 at *
  generalize l2.length = m2 at *
  generalize k.length = m3 at *
  clear r1 r2 r3 hk hfit hq hbb p0 p1 n1 n2 n3 e1 e2 her he hf
  go_enter Try.func3, Try.ntmps3
  go_wp2_with fail
  refine HA.out.mono ?_; rintro e W1 ⟨rfl, hb1⟩
  have B1 := Lib.hid hb1
  clear hb1 HA
  go_wp2_with fail
  refine (HR.out W1 B1.out).mono ?_; rintro e W2 ⟨rfl, hb⟩
  have B2 := Lib.hid (bTrans B1.out hb)
  clear hb HR B1
  go_wp2_with fail
  refine (HN.out W2).mono ?_; rintro e W3 ⟨M, F, rfl, h3, hb⟩
  have O3 := Lib.hid (show Own1 W3 W.heap.size F M (emptyM b.toNat) from ⟨h3.mem, fun q hq => Nat.le_trans B2.out.size (h3.ge q hq), Nat.le_trans B2.out.size h3.sz⟩)
  have B3 := Lib.hid (bTrans B2.out hb)
  clear hb HN B2 h3
  go_wp2_with fail
  refine (HB.out W3 M F B3.out O3.out).mono ?_; rintro e W4 ⟨rfl, F', h4, mv⟩
  have O4 := Lib.hid h4
  have B4 := Lib.hid (B3.out.trans (mv.belowN O3.out))
  clear h4 mv O3 B3 HB
  obtain ⟨V, hV⟩ : ∃ V, zero24 = V := ⟨_, rfl⟩
  rw [hV]
  simp only []
  go_at_K
  rename_i hK
  refine hK _ _ ?_
  clear hK
  have hv1 : V.size = 24 := by rw [← hV]; rfl
  have hv2 : V.all (·.oneCell') = true := by rw [← hV]; exact zero24_one
  refine Great.wpList_readTo rfl (some 55) rfl (.tuple #[.agg V, .int .i64 er]) rfl ?_
  refine Great.wpList_readTo rfl (some 63) rfl (.agg V) rfl ?_
  refine Great.wpList_readTo rfl (some 64) rfl (.int .i64 er) rfl ?_
  refine Great.wpList_allocTo rfl (some 17) rfl (.pointer (some ⟨W4.heap.size, 0, none⟩)) (.cells zero24 34) (by kernel_rfl) ?_
  refine wpList_store_mid rfl _ _ _ rfl W4.heap.size 0 V rfl rfl (by rw [hv1]; exact (BoxN.new W4 zero24 34).there) (by rw [hv1]; exact startSize) hv2 ?_
  have hz := box_new W4 V hv1
  have hb5 : Below W4.heap.size W4 ((W4.alloc (.cells zero24 34)).setCells W4.heap.size 0 V.toList) := below_setCells _ (Nat.le_refl _) _ _ _ (bAlloc (Below.refl _ _) _)
  obtain ⟨W5, hW5⟩ : ∃ W5, (W4.alloc (.cells zero24 34)).setCells W4.heap.size 0 V.toList = W5 := ⟨_, rfl⟩
  rw [hW5] at hz hb5
  (try rw [hW5])
  clear hW5 hv1 hv2
  have HP := Lib.hid (spages_any W5 W.heap.size M F' _ (O4.out.below hb5))
  rw [emptyM_pgs, show ([] : List Nat).length = 0 from rfl] at HP
  have B5 := Lib.hid (B4.out.trans (hb5.mono B4.out.size))
  have HZ := Lib.hid hz
  clear hz hb5 O4 B4
  have dd1 : (er == 0) = false := by simpa using HE.out
  have dd2 : (er != 0) = true := by simpa using HE.out
  go_wp2_with fail
  refine HP.out.mono ?_; rintro e W6 ⟨xa, xc, rfl, -, hb⟩
  have Z6 := boxN_below HZ.out hb
  rw [← hV] at Z6
  have B6 := Lib.hid (B5.out.trans (hb.mono B5.out.size))
  have z5 : W6.cell? ⟨W4.heap.size, 5, none⟩ = some (.bool false) := Z6.cell 5
  have z11 : W6.cell? ⟨W4.heap.size, 11, none⟩ = some (.bool false) := Z6.cell 11
  clear hb Z6 HZ B5 HP hV
  go_wp2_with fail
  go_ret
  exact ⟨rfl, B6.out⟩
end Go.Proofs.Ytjefkhieihigiaa
