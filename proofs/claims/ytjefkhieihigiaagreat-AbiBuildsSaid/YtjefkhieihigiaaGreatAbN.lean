/- What a program begins with: Build, when texts and capabilities fit. -/
import Derived.Test.YtjefkhieihigiaaGreatAbM
import Derived.Great.Walk
namespace Go.Proofs.YtjefkhieihigiaaGreat
set_option linter.unusedVariables false
set_option linter.unusedSimpArgs false
open Go.Joins Go.ChangeShapes Go.WideShapes Go.ChangeAt Go.RowKit Go.Deep

theorem RdT.move {W W' : World} {F F' : Nat → Prop} {a : Option Addr} {l : List (List UInt8)} (h : RdT W F a l) (hm : Moves W W' F F') : RdT W' F' a l :=
  ⟨(h.kp hm.kp).1, fun b off h0 e => by
    obtain ⟨h1, h2⟩ := h.2 b off h0 e
    refine ⟨fun hf => ?_, Nat.lt_of_lt_of_le h2 hm.kp.size⟩
    rcases hm.sub b hf with h3 | h3
    · exact h1 h3
    · omega⟩
theorem RdC.move {W W' : World} {F F' : Nat → Prop} {a : Option Addr} {l : List Cp} (h : RdC W F a l) (hm : Moves W W' F F') : RdC W' F' a l :=
  ⟨(h.kp hm.kp).1, fun b off h0 e => by
    obtain ⟨h1, h2⟩ := h.2 b off h0 e
    refine ⟨fun hf => ?_, Nat.lt_of_lt_of_le h2 hm.kp.size⟩
    rcases hm.sub b hf with h3 | h3
    · exact h1 h3
    · omega⟩
/-- a new block beside -/
theorem RdT.with {W : World} {F : Nat → Prop} {a : Option Addr} {l : List (List UInt8)} (h : RdT W F a l) (o : Obj) : RdT (W.alloc o) (withB F W.heap.size) a l :=
  ⟨h.1.below (bAlloc (Below.refl _ _) o), fun b off h0 e => by
    obtain ⟨h1, h2⟩ := h.2 b off h0 e
    refine ⟨fun hf => ?_, by rw [size_alloc]; omega⟩
    rcases hf with h3 | h3
    · exact h1 h3
    · omega⟩
theorem RdC.with {W : World} {F : Nat → Prop} {a : Option Addr} {l : List Cp} (h : RdC W F a l) (o : Obj) : RdC (W.alloc o) (withB F W.heap.size) a l :=
  ⟨h.1.below (bAlloc (Below.refl _ _) o), fun b off h0 e => by
    obtain ⟨h1, h2⟩ := h.2 b off h0 e
    refine ⟨fun hf => ?_, by rw [size_alloc]; omega⟩
    rcases hf with h3 | h3
    · exact h1 h3
    · omega⟩
theorem RdC.own {W W' : World} {S : Nat → Prop} {B : Nat} {a : Option Addr} {c : Nat} {l : List Cp} (ho : W'.ownsRow B 37 6 (.slice a l.length c) l.length (capsV l)) (hS : ∀ q, B ≤ q → ¬ S q) : RdC W' S a l := by
  refine ⟨own_rd ho, fun b off h0 e' => ?_⟩
  rcases ho.2 with ⟨h1, h2⟩ | ⟨g, cap, cur, hv, hg, hb, r⟩
  · omega
  · cases hv
    cases e'
    exact ⟨hS _ hg, (Array.getElem?_eq_some_iff.1 hb).1⟩
theorem Own1.setCells {W : World} {N M R : Nat} {F : Nat → Prop} {m : Mm} (h : Own1 W N F M m) (hR : ¬ F R) (o : Nat) (vs : List Value) : Own1 (W.setCells R o vs) N F M m := by
  have hk : KP W.heap.size (fun q => q = R) W (W.setCells R o vs) := kp_setCells (S := fun q => q = R) R (Or.inr rfl) vs o W (KP.refl W.heap.size (fun q => q = R) W)
  exact ⟨h.mem.kp hk (Nat.le_refl _) (fun q hq e => hR (e ▸ hq)), h.ge, Nat.le_trans h.sz hk.size⟩
theorem texts_fit {l : List (List UInt8)} (h : textsB l = true) : l.length ≤ 8 ∧ ∀ s ∈ l, s.length ≤ 200 := by
  unfold textsB at h
  rw [Bool.and_eq_true, decide_eq_true_eq, List.all_eq_true] at h
  refine ⟨h.1, fun s hs => ?_⟩
  have := h.2 s hs
  unfold textB at this
  rw [Bool.and_eq_true, decide_eq_true_eq] at this
  exact this.1
theorem aux_fit {l : List Cp} (h : auxB l = true) : l.length ≤ 8 := by
  unfold auxB at h
  rw [Bool.and_eq_true, decide_eq_true_eq] at h
  exact h.1
theorem map_ok {m : Mm} {f p : Int} (hf : 0 ≤ f) (h : (mapF m f p).2 = 0) : 1 ≤ p ∧ p ≤ 65536 ∧ f + p ≤ 65536 := by
  unfold mapF at h
  split at h
  · cases h
  · rename_i hb
    unfold badP at hb
    simp only [Bool.or_eq_true, decide_eq_true_eq, not_or] at hb
    omega
set_option maxRecDepth 100000 in
set_option maxHeartbeats 4000000 in
theorem build_room (W : World) (N M : Nat) (F : Nat → Prop) (m : Mm) (f : Nat) (p : Int) (a1 a2 a3 : Option Addr) (c1 c2 c3 : Nat) (l1 l2 : List (List UInt8)) (k : List Cp) (hm : Own1 W N F M m) (h1 : RdT W F a1 l1) (h2 : RdT W F a2 l2) (h3 : RdC W F a3 k) (hf : f < 18446744073709551616) (hp0 : -9223372036854775808 ≤ p) (hp1 : p < 9223372036854775808)
    (ht1 : textsB l1 = true) (ht2 : textsB l2 = true) (ht3 : auxB k = true) (hr : roomB (needN l1 l2 k.length : Nat) p = false) :
    Calls Tryz.prog 11 #[.pointer (some ⟨M, 0, none⟩), .int .u64 (f : Int), .int .i64 p, .slice a1 l1.length c1, .slice a2 l2.length c2, .slice a3 k.length c3] W fun e W' => e = .returned (.tuple #[.agg zero24, .int .i64 190]) ∧ Below W.heap.size W W' := by
  obtain ⟨n1, s1⟩ := texts_fit ht1
  obtain ⟨n2, s2⟩ := texts_fit ht2
  have n3 := aux_fit ht3
  have HT1 := Lib.hid (fun W1 (hb : Below W.heap.size W W1) => textsFit_any a1 c1 l1 W1 (h1.1.below hb) (by omega))
  have HT2 := Lib.hid (fun W1 (hb : Below W.heap.size W W1) => textsFit_any a2 c2 l2 W1 (h2.1.below hb) (by omega))
  have HA := Lib.hid (fun W1 (hb : Below W.heap.size W W1) => auxFits_any a3 c3 k W1 (h3.1.below hb) (by omega))
  have HND := Lib.hid (fun W1 (hb : Below W.heap.size W W1) => need_any a1 a2 a3 c1 c2 c3 k.length l1 l2 W1 (h1.1.below hb) (h2.1.below hb) (by omega) (by omega) (by omega) s1 s2)
  have hnd : needN l1 l2 k.length ≤ 100000 := by
    unfold needN upN
    have := lensN_le l1 s1
    have := lensN_le l2 s2
    omega
  have HRM := Lib.hid (fun W1 => roomFor_any (needN l1 l2 k.length : Nat) p W1 (by omega) (by omega) hp0 hp1)
  rw [ht1] at HT1
  rw [ht2] at HT2
  rw [ht3] at HA
  obtain ⟨W0, hW0⟩ : ∃ W0, W.alloc (.cells zero24 39) = W0 := ⟨_, rfl⟩
  have hb0 : Below W.heap.size W W0 := by rw [← hW0]; exact bAlloc (Below.refl _ _) _
  have HZ0 : Hid (BoxN W0 W.heap.size zero24) := Lib.hid (by rw [← hW0]; exact BoxN.new W _ _)
  have HB0 := Lib.hid hb0
  have HW0 := Lib.hid hW0
  rw [hr] at HRM
  generalize needN l1 l2 k.length = nd at *
  generalize l1.length = n1' at *
  generalize l2.length = n2' at *
  generalize k.length = n3' at *
  clear hm h1 h2 h3 hf hp0 hp1 ht1 ht2 ht3 hr n1 s1 n2 s2 n3 hnd hb0 hW0
  go_enter Tryz.func11, Tryz.ntmps11
  go_upto_region 1 with fail
  (try rw [HW0.out])
  clear HW0
  go_upto_region 4 with (first
    | (go_at_call 31; refine (HRM.out _).mono ?_; rintro e w5 ⟨rfl, rfl⟩)
    | (go_at_call 10; refine (HND.out _ HB3.out).mono ?_; rintro e w4 ⟨rfl, hb⟩; have HZ4 := Lib.hid (boxN_below HZ3.out hb); have HB4 := Lib.hid (HB3.out.trans (hb.mono HB3.out.size)); clear hb)
    | (go_at_call 30; refine (HA.out _ HB2.out).mono ?_; rintro e w3 ⟨rfl, hb⟩; have HZ3 := Lib.hid (boxN_below HZ2.out hb); have HB3 := Lib.hid (HB2.out.trans (hb.mono HB2.out.size)); clear hb)
    | (go_at_call 29; refine (HT2.out _ HB1.out).mono ?_; rintro e w2 ⟨rfl, hb⟩; have HZ2 := Lib.hid (boxN_below HZ1.out hb); have HB2 := Lib.hid (HB1.out.trans (hb.mono HB1.out.size)); clear hb)
    | (go_at_call 29; refine (HT1.out _ HB0.out).mono ?_; rintro e w1 ⟨rfl, hb⟩; have HZ1 := Lib.hid (boxN_below HZ0.out hb); have HB1 := Lib.hid (HB0.out.trans (hb.mono HB0.out.size)); clear hb))
  apply wp_region_lit
  refine wpList_buildTo rfl 39 _ rfl (some 40) rfl zero24 (by kernel_rfl) ?_
  refine wpList_store_mid rfl _ _ _ rfl W.heap.size 0 zero24 rfl rfl HZ4.out.there startSize zero24_one ?_
  go_wp2_with fail
  refine bodyPost_ret (v := .tuple #[.agg zero24, .int .i64 190]) ?_ rfl ⟨rfl, ?_⟩
  · exact results_cell_tmp Tryz.results11 _ _ W.heap.size zero24.toList _ _ rfl rfl (World.rangeAt_setCells_same _ _ _ _ HZ4.out.there) Tryz.underlying39 rfl startSize
  · exact below_setCells _ (Nat.le_refl _) _ _ _ HB4.out
set_option maxRecDepth 100000 in
set_option maxHeartbeats 4000000 in
theorem build_err (W : World) (N M : Nat) (F : Nat → Prop) (m : Mm) (f : Nat) (p : Int) (a1 a2 a3 : Option Addr) (c1 c2 c3 : Nat) (l1 l2 : List (List UInt8)) (k : List Cp) (hm : Own1 W N F M m) (h1 : RdT W F a1 l1) (h2 : RdT W F a2 l2) (h3 : RdC W F a3 k) (hf : f < 18446744073709551616) (hp0 : -9223372036854775808 ≤ p) (hp1 : p < 9223372036854775808)
    (ht1 : textsB l1 = true) (ht2 : textsB l2 = true) (ht3 : auxB k = true) (hr : roomB (needN l1 l2 k.length : Nat) p = true) (he : (mapF m f p).2 ≠ 0) :
    Calls Tryz.prog 11 #[.pointer (some ⟨M, 0, none⟩), .int .u64 (f : Int), .int .i64 p, .slice a1 l1.length c1, .slice a2 l2.length c2, .slice a3 k.length c3] W fun e W' => e = .returned (.tuple #[.agg zero24, .int .i64 (mapF m f p).2]) ∧ ∃ F', Own1 W' N F' M (mapF m f p).1 ∧ Moves W W' F F' := by
  have HMP := Lib.hid (fun W1 (hb : Below W.heap.size W W1) => smap_any W1 N M F m (hm.below hb) (f : Int) p (by omega) (by omega) hp0 hp1)
  have hnb : ¬ F W.heap.size := fun hf => by have := hm.lt _ hf; omega
  have HNB := Lib.hid hnb
  have HN := Lib.hid hm.sz
  obtain ⟨n1, s1⟩ := texts_fit ht1
  obtain ⟨n2, s2⟩ := texts_fit ht2
  have n3 := aux_fit ht3
  have HT1 := Lib.hid (fun W1 (hb : Below W.heap.size W W1) => textsFit_any a1 c1 l1 W1 (h1.1.below hb) (by omega))
  have HT2 := Lib.hid (fun W1 (hb : Below W.heap.size W W1) => textsFit_any a2 c2 l2 W1 (h2.1.below hb) (by omega))
  have HA := Lib.hid (fun W1 (hb : Below W.heap.size W W1) => auxFits_any a3 c3 k W1 (h3.1.below hb) (by omega))
  have HND := Lib.hid (fun W1 (hb : Below W.heap.size W W1) => need_any a1 a2 a3 c1 c2 c3 k.length l1 l2 W1 (h1.1.below hb) (h2.1.below hb) (by omega) (by omega) (by omega) s1 s2)
  have hnd : needN l1 l2 k.length ≤ 100000 := by
    unfold needN upN
    have := lensN_le l1 s1
    have := lensN_le l2 s2
    omega
  have HRM := Lib.hid (fun W1 => roomFor_any (needN l1 l2 k.length : Nat) p W1 (by omega) (by omega) hp0 hp1)
  rw [ht1] at HT1
  rw [ht2] at HT2
  rw [ht3] at HA
  obtain ⟨W0, hW0⟩ : ∃ W0, W.alloc (.cells zero24 39) = W0 := ⟨_, rfl⟩
  have hb0 : Below W.heap.size W W0 := by rw [← hW0]; exact bAlloc (Below.refl _ _) _
  have HZ0 : Hid (BoxN W0 W.heap.size zero24) := Lib.hid (by rw [← hW0]; exact BoxN.new W _ _)
  have HB0 := Lib.hid hb0
  have HW0 := Lib.hid hW0
  rw [hr] at HRM
  obtain ⟨⟨m1, er⟩, hmm⟩ : ∃ q, mapF m f p = q := ⟨_, rfl⟩
  rw [hmm] at HMP he ⊢
  simp only [] at HMP he ⊢
  have d1 : (er == 0) = false := by simpa using he
  have d2 : (er != 0) = true := by simpa using he
  generalize needN l1 l2 k.length = nd at *
  generalize l1.length = n1' at *
  generalize l2.length = n2' at *
  generalize k.length = n3' at *
  clear hm h1 h2 h3 hf hp0 hp1 ht1 ht2 ht3 hr n1 s1 n2 s2 n3 hnd hb0 hW0 hmm he hnb
  go_enter Tryz.func11, Tryz.ntmps11
  go_upto_region 1 with fail
  (try rw [HW0.out])
  clear HW0
  go_upto_region 7 with (first
    | (go_at_call 31; refine (HRM.out _).mono ?_; rintro e w5 ⟨rfl, rfl⟩)
    | (go_at_call 10; refine (HND.out _ HB3.out).mono ?_; rintro e w4 ⟨rfl, hb⟩; have HZ4 := Lib.hid (boxN_below HZ3.out hb); have HB4 := Lib.hid (HB3.out.trans (hb.mono HB3.out.size)); clear hb)
    | (go_at_call 30; refine (HA.out _ HB2.out).mono ?_; rintro e w3 ⟨rfl, hb⟩; have HZ3 := Lib.hid (boxN_below HZ2.out hb); have HB3 := Lib.hid (HB2.out.trans (hb.mono HB2.out.size)); clear hb)
    | (go_at_call 29; refine (HT2.out _ HB1.out).mono ?_; rintro e w2 ⟨rfl, hb⟩; have HZ2 := Lib.hid (boxN_below HZ1.out hb); have HB2 := Lib.hid (HB1.out.trans (hb.mono HB1.out.size)); clear hb)
    | (go_at_call 29; refine (HT1.out _ HB0.out).mono ?_; rintro e w1 ⟨rfl, hb⟩; have HZ1 := Lib.hid (boxN_below HZ0.out hb); have HB1 := Lib.hid (HB0.out.trans (hb.mono HB0.out.size)); clear hb)
    | (go_at_call 8; refine (HMP.out _ HB4.out).mono ?_; rintro e w6 ⟨rfl, F', ho, hv⟩; have HZ6 := Lib.hid (HZ4.out.kp hv.kp HZ4.out.lt HNB.out); have HO6 := Lib.hid ho; have HV6 := Lib.hid hv; clear ho hv))
  apply wp_region_lit
  refine wpList_buildTo rfl 39 _ rfl (some 47) rfl zero24 (by kernel_rfl) ?_
  refine Great.wpList_readTo rfl (some 48) rfl (.int .i64 er) rfl ?_
  refine wpList_store_mid rfl _ _ _ rfl W.heap.size 0 zero24 rfl rfl HZ6.out.there startSize zero24_one ?_
  go_wp2_with fail
  have hnf : ¬ F' W.heap.size := fun hf => by
    rcases HV6.out.sub _ hf with h | h
    · exact HNB.out h
    · have := HZ4.out.lt; omega
  refine bodyPost_ret (v := .tuple #[.agg zero24, .int .i64 er]) ?_ rfl ⟨rfl, F', HO6.out.setCells hnf _ _, ?_, ?_⟩
  · exact results_cell_tmp Tryz.results11 _ _ W.heap.size zero24.toList _ _ rfl rfl (World.rangeAt_setCells_same _ _ _ _ HZ6.out.there) Tryz.underlying39 rfl startSize
  · exact fun b hb => (HV6.out.sub b hb).imp id (fun h => Nat.le_trans HB4.out.size h)
  · exact kp_setCells _ (Or.inl (Nat.le_refl _)) _ _ _ (kp_trans2 (KP.of_below F HB4.out) HV6.out.kp HB4.out.size)
end Go.Proofs.YtjefkhieihigiaaGreat
