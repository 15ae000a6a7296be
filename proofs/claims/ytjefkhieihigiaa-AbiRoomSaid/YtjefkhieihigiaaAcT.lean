/- AbiTexts: the walk. -/
import Derived.Test.YtjefkhieihigiaaAcB
import Derived.Test.YtjefkhieihigiaaAbX
namespace Go.Proofs.Ytjefkhieihigiaa
set_option linter.unusedVariables false
set_option linter.unusedSimpArgs false
open Go.Joins Go.ChangeShapes Go.WideShapes Go.ChangeAt Go.RowKit Go.Deep

theorem map_in {m : Mm} {f : Nat} {p : Int} (h : (mapF m f p).2 = 0) (z : Nat) (h1 : f * 256 ≤ z) (h2 : (z : Int) < ((f : Int) + p) * 256) : z / 256 ∈ (mapF m f p).1.pgs := by
  obtain ⟨o1, o2, o3⟩ := map_ok (m := m) (f := (f : Int)) (p := p) (by omega) h
  have hm : (mapF m f p).1 = addN m (f : Int).toNat p.toNat := by
    unfold mapF at h ⊢
    by_cases g1 : badP f p = true
    · rw [if_pos g1] at h; cases h
    · rw [if_neg g1] at h ⊢
      by_cases g2 : anyIn m (f : Int).toNat p.toNat = true
      · rw [if_pos g2] at h; cases h
      · rw [if_neg g2] at h ⊢
        by_cases g3 : m.bud < m.pgs.length + p.toNat
        · rw [if_pos g3] at h; cases h
        · rw [if_neg g3]
  rw [hm, addN_mem]
  left
  omega
/-- what was built tells its texts -/
theorem build_told (b : Nat) (f : Nat) (p : Int) (a e : List (List UInt8)) (h : (buildF (emptyM b) f p a e []).2.2 = 0) :
    ∃ (x s u v z y : Nat), (buildF (emptyM b) f p a e []).2.1 = ⟨⟨z, y, y, 27, -1, true⟩, spanC s ((s + 32 * a.length : Nat) : Int) 9, spanC u ((u + 32 * e.length : Nat) : Int) 9, spanC v ((v + 32 * 0 : Nat) : Int) 9⟩ ∧
      Told (buildF (emptyM b) f p a e []).1 s x a ∧ Told (buildF (emptyM b) f p a e []).1 u (x + lensN a) e ∧ Told (buildF (emptyM b) f p a e []).1 v 0 [] ∧ s + 32 * a.length < 100000000 ∧ u + 32 * e.length < 100000000 ∧ v < 100000000 ∧ x + lensN a + lensN e < 100000000 ∧ a.length ≤ 8 ∧ e.length ≤ 8 := by
  obtain ⟨x, y, hx, hy, hfp, hp1, t1, t2, t3, hxy, hxs, e1, e2, hmz⟩ := build_right _ _ _ _ _ _ h
  obtain ⟨n1, f1⟩ := texts_fit t1
  obtain ⟨n2, f2⟩ := texts_fit t2
  obtain ⟨q1, q2, q3⟩ := lay_told (mapF (emptyM b) f p).1 x y a e [] f1 f2 (by omega) (by omega) (fun z h1 h2 => map_in hmz z (by omega) (by omega)) (fun c hc => by cases hc)
  rw [← e1] at q1 q2 q3
  have hs1 : x + lensN a + lensN e ≤ listN x a e := upN_ge _
  refine ⟨x, listN x a e, listN x a e + 32 * (a.length + 1), listN x a e + 32 * (a.length + 1) + 32 * (e.length + 1), _, y, e2, q1, q2, ⟨fun i hi => absurd hi (by simp), fun i hi => absurd hi (by simp), q3⟩, by omega, by omega, by omega, by omega, n1, n2⟩
theorem range_later {W W' : World} {g o : Nat} {vs : List Value} (h : W.rangeAt g o vs) (hb : Below W.heap.size W W') : W'.rangeAt g o vs := fun j v hv => cell_below hb (h j v hv)
theorem startV_size (s : St) : (startV s).size = 24 := rfl
theorem startV_one (s : St) : (startV s).all (·.oneCell') = true := by
  obtain ⟨⟨a0, a1, a2, a3, a4, a5⟩, ⟨b0, b1, b2, b3, b4, b5⟩, ⟨c0, c1, c2, c3, c4, c5⟩, ⟨d0, d1, d2, d3, d4, d5⟩⟩ := s
  kernel_rfl
set_option maxRecDepth 100000 in
set_option maxHeartbeats 4000000 in
theorem texts_out (W : World) (b f p : Int) (a1 a2 : Option Addr) (c1 c2 : Nat) (n1 n2 : Nat) (h : badB b = true ∨ p < -9 ∨ 300 < p ∨ 20 < n1 ∨ 20 < n2) :
    Calls Try.prog 4 #[.int .i64 b, .int .u64 f, .int .i64 p, .slice a1 n1 c1, .slice a2 n2 c2] W fun e W' => e = .returned (.bool true) ∧ Below W.heap.size W W' := by
  have HA := Lib.hid (awake_any W)
  have HH := Lib.hid h
  clear h
  go_enter Try.func4, Try.ntmps4
  go_wp2_with fail
  refine HA.out.mono ?_; rintro e W1 ⟨rfl, hb1⟩
  have B2 := Lib.hid hb1
  clear hb1 HA
  rcases hbb : badB b with _ | _
  · have HN := Lib.hid (snew_any b hbb W1)
    rw [hbb] at HH
    clear hbb
    go_wp2_with fail
    refine HN.out.mono ?_; rintro e W3 ⟨M, F, rfl, -, hb⟩
    have B3 := Lib.hid (bTrans B2.out hb)
    clear hb HN B2
    have h2 : p < -9 ∨ 300 < p ∨ 20 < n1 ∨ 20 < n2 := by simpa using HH.out
    clear HH
    by_cases g1 : p < -9
    · have d1 : decide (p < -9) = true := decide_eq_true g1
      clear h2 g1
      go_wp2_with fail
      go_ret
      exact ⟨rfl, B3.out⟩
    have d1 : decide (p < -9) = false := decide_eq_false g1
    by_cases g2 : 300 < p
    · have d2 : decide (300 < p) = true := decide_eq_true g2
      clear h2 g1 g2
      go_wp2_with fail
      go_ret
      exact ⟨rfl, B3.out⟩
    have d2 : decide (300 < p) = false := decide_eq_false g2
    by_cases g3 : 20 < n1
    · have d3 : decide ((20 : Int) < (n1 : Int)) = true := decide_eq_true (by omega)
      clear h2 g1 g2 g3
      go_wp2_with fail
      go_ret
      exact ⟨rfl, B3.out⟩
    have d3 : decide ((20 : Int) < (n1 : Int)) = false := decide_eq_false (by omega)
    have d4 : decide ((20 : Int) < (n2 : Int)) = true := decide_eq_true (by omega)
    clear h2 g1 g2 g3
    go_wp2_with fail
    go_ret
    exact ⟨rfl, B3.out⟩
  · have HN := Lib.hid (sbad_any b hbb W1)
    clear hbb HH
    go_wp2_with fail
    refine HN.out.mono ?_; rintro e W3 ⟨rfl, rfl⟩
    go_wp2_with fail
    go_ret
    exact ⟨rfl, B2.out⟩
set_option maxRecDepth 100000 in
set_option maxHeartbeats 4000000 in
theorem texts_in (W : World) (b : Int) (f : Nat) (p : Int) (a1 a2 : Option Addr) (c1 c2 : Nat) (l1 l2 : List (List UInt8)) (hf : f < 18446744073709551616) (r1 : Rd W a1 l1.length (strs l1)) (r2 : Rd W a2 l2.length (strs l2))
    (hbb : badB b = false) (p0 : -9 ≤ p) (p1 : p ≤ 300) (n1 : l1.length ≤ 20) (n2 : l2.length ≤ 20) :
    Calls Try.prog 4 #[.int .i64 b, .int .u64 (f : Int), .int .i64 p, .slice a1 l1.length c1, .slice a2 l2.length c2] W fun e W' => e = .returned (.bool true) ∧ Below W.heap.size W W' := by
  have HA := Lib.hid (awake_any W)
  have HN := Lib.hid (fun w => snew_any b hbb w)
  have HR := Lib.hid (And.intro r1 r2)
  have HTO := Lib.hid (fun h => build_told b.toNat f p l1 l2 h)
  obtain ⟨er, her⟩ : ∃ er, (buildF (emptyM b.toNat) f p l1 l2 []).2.2 = er := ⟨_, rfl⟩
  obtain ⟨st, hst⟩ : ∃ st, (buildF (emptyM b.toNat) f p l1 l2 []).2.1 = st := ⟨_, rfl⟩
  have HB := Lib.hid (fun (w : World) (M : Nat) (F : Nat → Prop) (hb : Below W.heap.size W w) (h : Own1 w W.heap.size F M (emptyM b.toNat)) => build_any w W.heap.size M F (emptyM b.toNat) f p a1 a2 none c1 c2 0 l1 l2 [] h (RdT.old h r1 hb rfl) (RdT.old h r2 hb rfl) (rdC_nil _ _) hf (by omega) (by omega) (by omega) (by omega) (by decide) (fun c hc => by cases hc))
  rw [her, hst] at HTO
  rw [her, hst, show ([] : List Cp).length = 0 from rfl] at HB
  obtain ⟨mm, hmm⟩ : ∃ mm, (buildF (emptyM b.toNat) f p l1 l2 []).1 = mm := ⟨_, rfl⟩
  rw [hmm] at HB HTO
  have d1 : decide (p < -9) = false := decide_eq_false (by omega)
  have d2 : decide (300 < p) = false := decide_eq_false (by omega)
  have d3 : decide ((20 : Int) < (l1.length : Int)) = false := decide_eq_false (by omega)
  have d4 : decide ((20 : Int) < (l2.length : Int)) = false := decide_eq_false (by omega)
  obtain ⟨m1, hm1⟩ : ∃ n, l1.length = n := ⟨_, rfl⟩
  obtain ⟨m2, hm2⟩ : ∃ n, l2.length = n := ⟨_, rfl⟩
  rw [hm1] at HB d3 ⊢
  rw [hm2] at HB d4 ⊢
  have HM := Lib.hid (And.intro hm1 hm2)
  obtain ⟨V, hV⟩ : ∃ V, startV st = V := ⟨_, rfl⟩
  have hv1 : V.size = 24 := by rw [← hV]; exact startV_size st
  have hv2 : V.all (·.oneCell') = true := by rw [← hV]; exact startV_one st
  rw [hV] at HB
  have HV := Lib.hid hV
  have HV1 := Lib.hid (And.intro hv1 hv2)
  clear r1 r2 hf hbb p0 p1 n1 n2 her hst hmm hm1 hm2 hV hv1 hv2
  go_enter Try.func4, Try.ntmps4
  go_wp2_with fail
  refine HA.out.mono ?_; rintro e W1 ⟨rfl, hb1⟩
  have B2 := Lib.hid hb1
  clear hb1 HA
  go_wp2_with fail
  refine (HN.out W1).mono ?_; rintro e W3 ⟨M, F, rfl, h3, hb⟩
  have O3 := Lib.hid (show Own1 W3 W.heap.size F M (emptyM b.toNat) from ⟨h3.mem, fun q hq => Nat.le_trans B2.out.size (h3.ge q hq), Nat.le_trans B2.out.size h3.sz⟩)
  have B3 := Lib.hid (bTrans B2.out hb)
  clear hb HN B2 h3
  go_wp2_with fail
  refine (HB.out W3 M F B3.out O3.out).mono ?_; rintro e W4 ⟨rfl, F', h4, mv⟩
  have O4 := Lib.hid h4
  have B4 := Lib.hid (B3.out.trans (mv.belowN O3.out))
  clear h4 mv O3 B3 HB
  simp only []
  go_at_K
  rename_i hK
  refine hK _ _ ?_
  clear hK
  refine Great.wpList_readTo rfl (some 46) rfl (.tuple #[.agg V, .int .i64 er]) rfl ?_
  refine Great.wpList_readTo rfl (some 53) rfl (.agg V) rfl ?_
  refine Great.wpList_readTo rfl (some 54) rfl (.int .i64 er) rfl ?_
  refine Great.wpList_allocTo rfl (some 14) rfl (.pointer (some ⟨W4.heap.size, 0, none⟩)) (.cells zero24 34) (by kernel_rfl) ?_
  refine wpList_store_mid rfl _ _ _ rfl W4.heap.size 0 V rfl rfl (by rw [HV1.out.1]; exact (BoxN.new W4 zero24 34).there) (by rw [HV1.out.1]; exact startSize) HV1.out.2 ?_
  have hz := box_new W4 V HV1.out.1
  have hb5 : Below W4.heap.size W4 ((W4.alloc (.cells zero24 34)).setCells W4.heap.size 0 V.toList) := below_setCells _ (Nat.le_refl _) _ _ _ (bAlloc (Below.refl _ _) _)
  obtain ⟨W5, hW5⟩ : ∃ W5, (W4.alloc (.cells zero24 34)).setCells W4.heap.size 0 V.toList = W5 := ⟨_, rfl⟩
  rw [hW5] at hz hb5
  (try rw [hW5])
  obtain ⟨R, hR⟩ : ∃ R, W4.heap.size = R := ⟨_, rfl⟩
  have B5 := Lib.hid (B4.out.trans (hb5.mono B4.out.size))
  have O5 := Lib.hid (O4.out.below hb5)
  rw [hR] at hz ⊢
  have HZ := Lib.hid hz
  clear hW5 hz hb5 O4 B4 hR
  by_cases he : er = 0
  · subst he
    obtain ⟨x, s, u, v, z, y, rfl, T1, T2, T3, s1, s2, s3, s4, n1, n2⟩ := HTO.out rfl
    obtain ⟨sa, hsa⟩ : ∃ k, s + 32 * l1.length = k := ⟨_, rfl⟩
    obtain ⟨ua, hua⟩ : ∃ k, u + 32 * l2.length = k := ⟨_, rfl⟩
    rw [hsa] at HV s1
    rw [hua] at HV s2
    rw [show v + 32 * 0 = v from rfl] at HV
    obtain ⟨ty, hbx⟩ := HZ.out
    have q1 : W5.rangeAt R 6 [.int .u64 (s : Int), .int .u64 (sa : Int), .int .u64 (s : Int), .int .i64 9, .int .i64 (-1), .bool true] := by rw [← HV.out] at hbx; exact World.rangeAt_of_block hbx 6 6
    have q2 : W5.rangeAt R 12 [.int .u64 (u : Int), .int .u64 (ua : Int), .int .u64 (u : Int), .int .i64 9, .int .i64 (-1), .bool true] := by rw [← HV.out] at hbx; exact World.rangeAt_of_block hbx 12 6
    have q3 : W5.rangeAt R 18 [.int .u64 (v : Int), .int .u64 (v : Int), .int .u64 (v : Int), .int .i64 9, .int .i64 (-1), .bool true] := by rw [← HV.out] at hbx; exact World.rangeAt_of_block hbx 18 6
    obtain ⟨r1, r2⟩ := HR.out
    have B5o := B5.out
    have D1 := Lib.hid (told_any W5 W.heap.size M F' mm O5.out s sa x l1 a1 c1 (r1.below B5o) hsa.symm (by omega) n1 (by omega) T1)
    have D2 := Lib.hid (fun w6 (hb : Below W5.heap.size W5 w6) => told_any w6 W.heap.size M F' mm (O5.out.below hb) u ua (x + lensN l1) l2 a2 c2 ((r2.below B5o).below hb) hua.symm (by omega) n2 (by omega) T2)
    have D3 := Lib.hid (fun w6 (hb : Below W5.heap.size W5 w6) => told_any w6 W.heap.size M F' mm (O5.out.below hb) v v 0 [] none 0 (Rd.nil _ _) (show v = v + 32 * 0 from rfl) (by omega) (by decide) (by show 0 + 0 < _; omega) T3)
    rw [HM.out.1] at D1
    rw [HM.out.2] at D2
    rw [show ([] : List (List UInt8)).length = 0 from rfl] at D3
    have Q1 := Lib.hid q1
    have Q2 := Lib.hid q2
    have Q3 := Lib.hid q3
    clear q1 q2 q3 hbx r1 r2 B5o T1 T2 T3 s1 s2 s3 s4 n1 n2 hsa hua HTO O5 HR HZ HV
    go_upto_region 8 with fail
    apply wp_region_lit
    refine Great.wpList_readTo rfl (some 58) rfl (.pointer (some ⟨M, 0, none⟩)) (by kernel_rfl) ?_
    refine Great.wpList_readTo rfl (some 59) rfl (.pointer (some ⟨R, 6, none⟩)) (by kernel_rfl) ?_
    refine wpList_load_mid rfl _ _ rfl R 6 rfl [.int .u64 (s : Int), .int .u64 (sa : Int), .int .u64 (s : Int), .int .i64 9, .int .i64 (-1), .bool true] _ Q1.out Try.underlying32 rfl capSize ?_
    go_wp2_with fail
    refine D1.out.mono ?_; rintro e W6 ⟨rfl, hb⟩
    have G6 := Lib.hid hb
    have Q2 := Lib.hid (range_later Q2.out hb)
    have Q3 := Lib.hid (range_later Q3.out hb)
    have D2 := Lib.hid (D2.out W6 hb)
    clear hb D1 Q1
    go_upto_region 9 with fail
    apply wp_region_lit
    refine Great.wpList_readTo rfl (some 63) rfl (.pointer (some ⟨M, 0, none⟩)) (by kernel_rfl) ?_
    refine Great.wpList_readTo rfl (some 64) rfl (.pointer (some ⟨R, 12, none⟩)) (by kernel_rfl) ?_
    refine wpList_load_mid rfl _ _ rfl R 12 rfl [.int .u64 (u : Int), .int .u64 (ua : Int), .int .u64 (u : Int), .int .i64 9, .int .i64 (-1), .bool true] _ Q2.out Try.underlying32 rfl capSize ?_
    go_wp2_with fail
    refine D2.out.mono ?_; rintro e W7 ⟨rfl, hb⟩
    have G7 := Lib.hid (G6.out.trans (hb.mono G6.out.size))
    have Q3 := Lib.hid (range_later Q3.out hb)
    have D3 := Lib.hid (D3.out W7 G7.out)
    clear hb D2 Q2 G6
    go_upto_region 10 with fail
    apply wp_region_lit
    refine Great.wpList_readTo rfl (some 68) rfl (.pointer (some ⟨M, 0, none⟩)) (by kernel_rfl) ?_
    refine Great.wpList_readTo rfl (some 69) rfl (.pointer (some ⟨R, 18, none⟩)) (by kernel_rfl) ?_
    refine wpList_load_mid rfl _ _ rfl R 18 rfl [.int .u64 (v : Int), .int .u64 (v : Int), .int .u64 (v : Int), .int .i64 9, .int .i64 (-1), .bool true] _ Q3.out Try.underlying32 rfl capSize ?_
    go_wp2_with fail
    refine D3.out.mono ?_; rintro e W8 ⟨rfl, hb⟩
    have B8 := Lib.hid (B5.out.trans ((G7.out.trans (hb.mono G7.out.size)).mono B5.out.size))
    clear hb D3 Q3 G7 B5
    go_wp2_with fail
    go_ret
    exact ⟨rfl, B8.out⟩
  · have e1 : (er == 0) = false := by simpa using he
    have e2 : (er != 0) = true := by simpa using he
    clear he
    go_wp2_with fail
    go_ret
    exact ⟨rfl, B5.out⟩
theorem AbiTexts_walk (W : World) (b f p : Int) (a1 a2 : Option Addr) (c1 c2 : Nat) (l1 l2 : List (List UInt8)) (f0 : 0 ≤ f) (f1 : f < 18446744073709551616) (r1 : Rd W a1 l1.length (strs l1)) (r2 : Rd W a2 l2.length (strs l2)) :
    Calls Try.prog 4 #[.int .i64 b, .int .u64 f, .int .i64 p, .slice a1 l1.length c1, .slice a2 l2.length c2] W fun e W' => e = .returned (.bool true) ∧ Below W.heap.size W W' := by
  obtain ⟨n, rfl⟩ : ∃ n : Nat, f = (n : Int) := ⟨f.toNat, by omega⟩
  by_cases hb : badB b = false
  · by_cases h1 : p < -9
    · exact texts_out W b n p a1 a2 c1 c2 _ _ (Or.inr (Or.inl h1))
    by_cases h2 : 300 < p
    · exact texts_out W b n p a1 a2 c1 c2 _ _ (Or.inr (Or.inr (Or.inl h2)))
    by_cases h3 : 20 < l1.length
    · exact texts_out W b n p a1 a2 c1 c2 _ _ (Or.inr (Or.inr (Or.inr (Or.inl h3))))
    by_cases h4 : 20 < l2.length
    · exact texts_out W b n p a1 a2 c1 c2 _ _ (Or.inr (Or.inr (Or.inr (Or.inr h4))))
    exact texts_in W b n p a1 a2 c1 c2 l1 l2 (by omega) r1 r2 hb (by omega) (by omega) (by omega) (by omega)
  · exact texts_out W b n p a1 a2 c1 c2 _ _ (Or.inl (by simpa using hb))
end Go.Proofs.Ytjefkhieihigiaa
