/- The document's Build that fails. -/
import Derived.Test.YtjefkhieihigiaaGreatAdE
import Derived.Test.YtjefkhieihigiaaGreatAdR
import Derived.Test.YtjefkhieihigiaaGreatAdN
import Derived.Test.YtjefkhieihigiaaGreatAbU
import Derived.Great.Walk
namespace Go.Proofs.YtjefkhieihigiaaGreat
set_option linter.unusedVariables false
set_option linter.unusedSimpArgs false
open Go.Joins Go.ChangeShapes Go.WideShapes Go.ChangeAt Go.RowKit Go.Deep

theorem startSizeD : (Tryz.prog.info? 42).map (·.size) = some 24 := by kernel_rfl
theorem rrmap_any (W : World) (N R : Nat) (G : Nat → Prop) (m : Mm) (h : ROw W N G R m) (f n : Int) (hf0 : 0 ≤ f) (hf1 : f < 18446744073709551616) (hn0 : -9223372036854775808 ≤ n) (hn1 : n < 9223372036854775808) :
    Calls Tryz.prog 9 #[.pointer (some ⟨R, 0, none⟩), .int .u64 f, .int .i64 n] W fun e W' => e = .returned (.int .i64 (mapF m f n).2) ∧ ∃ G', ROw W' N G' R (mapF m f n).1 ∧ Moves W W' G G' := by
  refine (rmap_any W R G m h.mem f n hf0 hf1 hn0 hn1).mono ?_
  rintro e W' ⟨rfl, h1, h2⟩
  exact ⟨rfl, row_step h h1 h2⟩
theorem ROw.setCells {W : World} {N R B : Nat} {G : Nat → Prop} {m : Mm} (h : ROw W N G R m) (hB : ¬ G B) (o : Nat) (vs : List Value) : ROw (W.setCells B o vs) N G R m :=
  ⟨h.mem.kp (kp_setCells (S := (· = B)) B (Or.inr rfl) vs o W (KP.refl W.heap.size (· = B) W)) (Nat.le_refl _) (fun q hq e => hB (e ▸ hq)), h.ge, by rw [size_setC]; exact h.sz⟩
set_option maxRecDepth 100000 in
set_option maxHeartbeats 4000000 in
theorem rb_no (W : World) (R : Nat) (f p : Int) (a1 a2 a3 : Option Addr) (c1 c2 c3 : Nat) (l1 l2 : List (List UInt8)) (k : List Cp) (h1 : Rd W a1 l1.length (strs l1)) (h2 : Rd W a2 l2.length (strs l2)) (h3 : Rd W a3 (k.length * 6) (capsV k)) (hl1 : l1.length ≤ 400) (hl2 : l2.length ≤ 400) (hk : k.length ≤ 400) (f1 : ∀ s ∈ l1, s.length ≤ maxLen) (f2 : ∀ s ∈ l2, s.length ≤ maxLen) (f3 : ∀ c ∈ k, 0 ≤ c.p ∧ c.p < 256)
    (hno : (textsB l1 && (textsB l2 && auxB k)) = false) :
    Calls Tryz.prog 12 #[.pointer (some ⟨R, 0, none⟩), .int .u64 f, .int .i64 p, .slice a1 l1.length c1, .slice a2 l2.length c2, .slice a3 k.length c3] W fun e W' => e = .returned (.tuple #[.agg zero24, .int .i64 1]) ∧ Below W.heap.size W W' := by
  have HT1 := Lib.hid (fun W1 (hb : Below W.heap.size W W1) => rright_any a1 a2 a3 c1 c2 c3 l1 l2 k W1 (h1.below hb) (h2.below hb) (h3.below hb) (by omega) (by omega) (by omega) f1 f2 f3)
  rw [hno] at HT1
  obtain ⟨W0, hW0⟩ : ∃ W0, W.alloc (.cells zero24 42) = W0 := ⟨_, rfl⟩
  have hb0 : Below W.heap.size W W0 := by rw [← hW0]; exact bAlloc (Below.refl _ _) _
  have HZ0 : Hid (BoxN W0 W.heap.size zero24) := Lib.hid (by rw [← hW0]; exact BoxN.new W _ _)
  have HB0 := Lib.hid hb0
  have HW0 := Lib.hid hW0
  generalize l1.length = n1 at *
  generalize l2.length = n2 at *
  generalize k.length = n3 at *
  clear h1 h2 h3 hl1 hl2 hk hb0 hW0 hno f1 f2 f3
  go_enter Tryz.func12, Tryz.ntmps12
  go_upto_region 1 with fail
  (try rw [HW0.out])
  clear HW0
  go_upto_region 3 with (go_at_call 35; refine (HT1.out _ HB0.out).mono ?_; rintro e w1 ⟨rfl, hb⟩; have HZ1 := Lib.hid (boxN_below HZ0.out hb); have HB1 := Lib.hid (HB0.out.trans (hb.mono HB0.out.size)); clear hb)
  apply wp_region_lit
  refine wpList_buildTo rfl 42 _ rfl (some 30) rfl zero24 (by kernel_rfl) ?_
  refine wpList_store_mid rfl _ _ _ rfl W.heap.size 0 zero24 rfl rfl HZ1.out.there startSizeD zero24_one ?_
  go_wp2_with fail
  refine bodyPost_ret (v := .tuple #[.agg zero24, .int .i64 1]) ?_ rfl ⟨rfl, ?_⟩
  · exact results_cell_tmp Tryz.results12 _ _ W.heap.size zero24.toList _ _ rfl rfl (World.rangeAt_setCells_same _ _ _ _ HZ1.out.there) Tryz.underlying42 rfl startSizeD
  · exact below_setCells _ (Nat.le_refl _) _ _ _ HB1.out
/-- what the document's Need is, of texts that may be -/
theorem rneed_fit (a1 a2 a3 : Option Addr) (c1 c2 c3 k : Nat) (l1 l2 : List (List UInt8)) (W : World) (h1 : Rd W a1 l1.length (strs l1)) (h2 : Rd W a2 l2.length (strs l2)) (n1 : l1.length ≤ 8) (n2 : l2.length ≤ 8) (hk : k ≤ 8) (s1 : ∀ s ∈ l1, s.length ≤ 200) (s2 : ∀ s ∈ l2, s.length ≤ 200) :
    Calls Tryz.prog 15 #[.slice a1 l1.length c1, .slice a2 l2.length c2, .slice a3 k c3] W fun e W' => e = .returned (.int .i64 ((needN l1 l2 k : Nat) : Int)) ∧ W = W' := by
  have q1 := lensN_le l1 s1
  have q2 := lensN_le l2 s2
  have hw : IntKind.i64.wrap (((upN (lensN l1 + lensN l2) + ((l1.length + 1) + (l2.length + 1) + (k + 1)) * 32 : Nat) : Int)) = ((needN l1 l2 k : Nat) : Int) := by
    have e0 : upN (lensN l1 + lensN l2) + ((l1.length + 1) + (l2.length + 1) + (k + 1)) * 32 = needN l1 l2 k := rfl
    rw [e0]
    have : needN l1 l2 k ≤ 100000 := by unfold needN upN; omega
    rw [IntKind.wrap_i64]
    omega
  have := rneed_any a1 a2 a3 c1 c2 c3 k l1 l2 W h1 h2 (by omega) (by omega) (by omega) (by omega)
  rw [hw] at this
  exact this
theorem needN_fit {l1 l2 : List (List UInt8)} {k : Nat} (n1 : l1.length ≤ 8) (n2 : l2.length ≤ 8) (hk : k ≤ 8) (s1 : ∀ s ∈ l1, s.length ≤ 200) (s2 : ∀ s ∈ l2, s.length ≤ 200) : needN l1 l2 k ≤ 100000 := by
  have q1 := lensN_le l1 s1
  have q2 := lensN_le l2 s2
  unfold needN upN
  omega
set_option maxRecDepth 100000 in
set_option maxHeartbeats 4000000 in
theorem rb_room (W : World) (R : Nat) (f p : Int) (a1 a2 a3 : Option Addr) (c1 c2 c3 : Nat) (l1 l2 : List (List UInt8)) (k : List Cp) (h1 : Rd W a1 l1.length (strs l1)) (h2 : Rd W a2 l2.length (strs l2)) (h3 : Rd W a3 (k.length * 6) (capsV k)) (f3 : ∀ c ∈ k, 0 ≤ c.p ∧ c.p < 256) (hp0 : -9 ≤ p) (hp1 : p ≤ 300)
    (ht1 : textsB l1 = true) (ht2 : textsB l2 = true) (ht3 : auxB k = true) (hr : 256 * p < (needN l1 l2 k.length : Int) + 64) :
    Calls Tryz.prog 12 #[.pointer (some ⟨R, 0, none⟩), .int .u64 f, .int .i64 p, .slice a1 l1.length c1, .slice a2 l2.length c2, .slice a3 k.length c3] W fun e W' => e = .returned (.tuple #[.agg zero24, .int .i64 190]) ∧ Below W.heap.size W W' := by
  obtain ⟨n1, s1⟩ := texts_fit ht1
  obtain ⟨n2, s2⟩ := texts_fit ht2
  have n3 := aux_fit ht3
  have HT1 := Lib.hid (fun W1 (hb : Below W.heap.size W W1) => rright_any a1 a2 a3 c1 c2 c3 l1 l2 k W1 (h1.below hb) (h2.below hb) (h3.below hb) (by omega) (by omega) (by omega) (fun s hs => Nat.le_trans (s1 s hs) (by decide)) (fun s hs => Nat.le_trans (s2 s hs) (by decide)) f3)
  rw [ht1, ht2, ht3, show (true && (true && true)) = true from rfl] at HT1
  have HND := Lib.hid (fun W1 (hb : Below W.heap.size W W1) => rneed_fit a1 a2 a3 c1 c2 c3 k.length l1 l2 W1 (h1.below hb) (h2.below hb) n1 n2 n3 s1 s2)
  have hnd := needN_fit n1 n2 n3 s1 s2
  obtain ⟨W0, hW0⟩ : ∃ W0, W.alloc (.cells zero24 42) = W0 := ⟨_, rfl⟩
  have hb0 : Below W.heap.size W W0 := by rw [← hW0]; exact bAlloc (Below.refl _ _) _
  have HZ0 : Hid (BoxN W0 W.heap.size zero24) := Lib.hid (by rw [← hW0]; exact BoxN.new W _ _)
  have HB0 := Lib.hid hb0
  have HW0 := Lib.hid hW0
  generalize needN l1 l2 k.length = nd at *
  generalize l1.length = n1' at *
  generalize l2.length = n2' at *
  generalize k.length = n3' at *
  have v1 : IntKind.i64.wrap ((nd : Int) + 64) = (nd : Int) + 64 := by rw [IntKind.wrap_i64]; omega
  have v2 : IntKind.i64.wrap (256 * p) = 256 * p := by rw [IntKind.wrap_i64]; omega
  have d1 : decide (p ≤ 65536) = true := decide_eq_true (by omega)
  have d2 : decide (256 * p < (nd : Int) + 64) = true := decide_eq_true hr
  clear h1 h2 h3 hb0 hW0 f3 ht1 ht2 ht3 n1 n2 n3 s1 s2 hr hp0 hp1 hnd
  go_enter Tryz.func12, Tryz.ntmps12
  go_upto_region 1 with fail
  (try rw [HW0.out])
  clear HW0
  go_upto_region 5 with (first
    | (go_at_call 15; refine (HND.out _ HB1.out).mono ?_; rintro e w2 ⟨rfl, rfl⟩)
    | (go_at_call 35; refine (HT1.out _ HB0.out).mono ?_; rintro e w1 ⟨rfl, hb⟩; have HZ1 := Lib.hid (boxN_below HZ0.out hb); have HB1 := Lib.hid (HB0.out.trans (hb.mono HB0.out.size)); clear hb))
  apply wp_region_lit
  refine wpList_buildTo rfl 42 _ rfl (some 43) rfl zero24 (by kernel_rfl) ?_
  refine wpList_store_mid rfl _ _ _ rfl W.heap.size 0 zero24 rfl rfl HZ1.out.there startSizeD zero24_one ?_
  go_wp2_with fail
  refine bodyPost_ret (v := .tuple #[.agg zero24, .int .i64 190]) ?_ rfl ⟨rfl, ?_⟩
  · exact results_cell_tmp Tryz.results12 _ _ W.heap.size zero24.toList _ _ rfl rfl (World.rangeAt_setCells_same _ _ _ _ HZ1.out.there) Tryz.underlying42 rfl startSizeD
  · exact below_setCells _ (Nat.le_refl _) _ _ _ HB1.out
set_option maxRecDepth 100000 in
set_option maxHeartbeats 4000000 in
theorem rb_err (W : World) (N R : Nat) (G : Nat → Prop) (m : Mm) (f : Nat) (p : Int) (a1 a2 a3 : Option Addr) (c1 c2 c3 : Nat) (l1 l2 : List (List UInt8)) (k : List Cp) (hm : ROw W N G R m) (h1 : Rd W a1 l1.length (strs l1)) (h2 : Rd W a2 l2.length (strs l2)) (h3 : Rd W a3 (k.length * 6) (capsV k)) (f3 : ∀ c ∈ k, 0 ≤ c.p ∧ c.p < 256) (hf : f < 18446744073709551616) (hp0 : -9 ≤ p) (hp1 : p ≤ 300)
    (ht1 : textsB l1 = true) (ht2 : textsB l2 = true) (ht3 : auxB k = true) (hr : ¬ 256 * p < (needN l1 l2 k.length : Int) + 64) (he : (mapF m f p).2 ≠ 0) :
    Calls Tryz.prog 12 #[.pointer (some ⟨R, 0, none⟩), .int .u64 (f : Int), .int .i64 p, .slice a1 l1.length c1, .slice a2 l2.length c2, .slice a3 k.length c3] W fun e W' => e = .returned (.tuple #[.agg zero24, .int .i64 (mapF m f p).2]) ∧ ∃ G', ROw W' N G' R (mapF m f p).1 ∧ Moves W W' G G' := by
  have HMP := Lib.hid (fun W1 (hb : Below W.heap.size W W1) => rrmap_any W1 N R G m (hm.below hb) (f : Int) p (by omega) (by omega) (by omega) (by omega))
  have hnb : ¬ G W.heap.size := fun hf => by have := hm.lt _ hf; omega
  have HNB := Lib.hid hnb
  obtain ⟨n1, s1⟩ := texts_fit ht1
  obtain ⟨n2, s2⟩ := texts_fit ht2
  have n3 := aux_fit ht3
  have HT1 := Lib.hid (fun W1 (hb : Below W.heap.size W W1) => rright_any a1 a2 a3 c1 c2 c3 l1 l2 k W1 (h1.below hb) (h2.below hb) (h3.below hb) (by omega) (by omega) (by omega) (fun s hs => Nat.le_trans (s1 s hs) (by decide)) (fun s hs => Nat.le_trans (s2 s hs) (by decide)) f3)
  rw [ht1, ht2, ht3, show (true && (true && true)) = true from rfl] at HT1
  have HND := Lib.hid (fun W1 (hb : Below W.heap.size W W1) => rneed_fit a1 a2 a3 c1 c2 c3 k.length l1 l2 W1 (h1.below hb) (h2.below hb) n1 n2 n3 s1 s2)
  have hnd := needN_fit n1 n2 n3 s1 s2
  obtain ⟨W0, hW0⟩ : ∃ W0, W.alloc (.cells zero24 42) = W0 := ⟨_, rfl⟩
  have hb0 : Below W.heap.size W W0 := by rw [← hW0]; exact bAlloc (Below.refl _ _) _
  have HZ0 : Hid (BoxN W0 W.heap.size zero24) := Lib.hid (by rw [← hW0]; exact BoxN.new W _ _)
  have HB0 := Lib.hid hb0
  have HW0 := Lib.hid hW0
  obtain ⟨⟨m1, er⟩, hmm⟩ : ∃ q, mapF m f p = q := ⟨_, rfl⟩
  rw [hmm] at HMP he ⊢
  simp only [] at HMP he ⊢
  have d3 : (er == 0) = false := by simpa using he
  have d4 : (er != 0) = true := by simpa using he
  generalize needN l1 l2 k.length = nd at *
  generalize l1.length = n1' at *
  generalize l2.length = n2' at *
  generalize k.length = n3' at *
  have v1 : IntKind.i64.wrap ((nd : Int) + 64) = (nd : Int) + 64 := by rw [IntKind.wrap_i64]; omega
  have v2 : IntKind.i64.wrap (256 * p) = 256 * p := by rw [IntKind.wrap_i64]; omega
  have d1 : decide (p ≤ 65536) = true := decide_eq_true (by omega)
  have d2 : decide (256 * p < (nd : Int) + 64) = false := decide_eq_false hr
  clear hm h1 h2 h3 hf hp0 hp1 f3 ht1 ht2 ht3 hr n1 s1 n2 s2 n3 hnd hb0 hW0 hmm he hnb
  go_enter Tryz.func12, Tryz.ntmps12
  go_upto_region 1 with fail
  (try rw [HW0.out])
  clear HW0
  go_upto_region 8 with (first
    | (go_at_call 15; refine (HND.out _ HB1.out).mono ?_; rintro e w2 ⟨rfl, rfl⟩)
    | (go_at_call 35; refine (HT1.out _ HB0.out).mono ?_; rintro e w1 ⟨rfl, hb⟩; have HZ1 := Lib.hid (boxN_below HZ0.out hb); have HB1 := Lib.hid (HB0.out.trans (hb.mono HB0.out.size)); clear hb)
    | (go_at_call 9; refine (HMP.out _ HB1.out).mono ?_; rintro e w6 ⟨rfl, G', ho, hv⟩; have HZ6 := Lib.hid (HZ1.out.kp hv.kp HZ1.out.lt HNB.out); have HO6 := Lib.hid ho; have HV6 := Lib.hid hv; clear ho hv))
  apply wp_region_lit
  refine wpList_buildTo rfl 42 _ rfl (some 50) rfl zero24 (by kernel_rfl) ?_
  refine Great.wpList_readTo rfl (some 51) rfl (.int .i64 er) rfl ?_
  refine wpList_store_mid rfl _ _ _ rfl W.heap.size 0 zero24 rfl rfl HZ6.out.there startSizeD zero24_one ?_
  go_wp2_with fail
  have hnf : ¬ G' W.heap.size := fun hf => by
    rcases HV6.out.sub _ hf with h | h
    · exact HNB.out h
    · have := HZ1.out.lt; omega
  refine bodyPost_ret (v := .tuple #[.agg zero24, .int .i64 er]) ?_ rfl ⟨rfl, G', HO6.out.setCells hnf _ _, ?_, ?_⟩
  · exact results_cell_tmp Tryz.results12 _ _ W.heap.size zero24.toList _ _ rfl rfl (World.rangeAt_setCells_same _ _ _ _ HZ6.out.there) Tryz.underlying42 rfl startSizeD
  · exact fun b hb => (HV6.out.sub b hb).imp id (fun h => Nat.le_trans HB1.out.size h)
  · exact kp_setCells _ (Or.inl (Nat.le_refl _)) _ _ _ (kp_trans2 (KP.of_below G HB1.out) HV6.out.kp HB1.out.size)
end Go.Proofs.YtjefkhieihigiaaGreat
