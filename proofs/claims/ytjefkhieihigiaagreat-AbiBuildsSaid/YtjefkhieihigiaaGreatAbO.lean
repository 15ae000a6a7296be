/- What a program begins with: Build that succeeds. -/
import Derived.Test.YtjefkhieihigiaaGreatAbN
namespace Go.Proofs.YtjefkhieihigiaaGreat
set_option linter.unusedVariables false
set_option linter.unusedSimpArgs false
open Go.Joins Go.ChangeShapes Go.WideShapes Go.ChangeAt Go.RowKit Go.Deep

theorem caps_fit : ∀ (l : List (List UInt8)) (x : Nat), x + lensN l < 18446744073709551616 → ∀ c ∈ capsT x l, FitC c
  | [], x, _, c, hc => by simp [capsT] at hc
  | s :: r, x, h, c, hc => by
    rw [lensN_cons] at h
    rw [capsT] at hc
    rcases List.mem_cons.1 hc with rfl | hc
    · unfold spanC
      exact ⟨by show (0 : Int) ≤ (x : Int); omega, by show (x : Int) < _; omega, by show (0 : Int) ≤ ((x + (s.length + 1) : Nat) : Int); omega, by show ((x + (s.length + 1) : Nat) : Int) < _; omega, by show (0 : Int) ≤ (x : Int); omega, by show (x : Int) < _; omega⟩
    · exact caps_fit r _ (by omega) c hc
theorem up_add (f s : Nat) : upN (f * 256 + s) = f * 256 + upN s := by unfold upN; omega
theorem there_below {w w' : World} {b o n : Nat} (h : w.there b o n) (hb : Below w.heap.size w w') (hl : b < w.heap.size) : w'.there b o n := fun j hj => by
  have h1 := hb.cell (p := ⟨b, o + j, none⟩) hl
  have h2 := hb.frozen (p := ⟨b, o + j, none⟩) hl
  rw [h1, h2]
  exact h j hj
theorem range_below {w w' : World} {b o : Nat} {l : List Value} (h : w.rangeAt b o l) (hb : Below w.heap.size w w') (hl : b < w.heap.size) : w'.rangeAt b o l := fun j v hv => (hb.cell (p := ⟨b, o + j, none⟩) hl).trans (h j v hv)
theorem range_app {w : World} {b : Nat} {l r : List Value} (h : w.rangeAt b 0 l) (k : w.rangeAt b l.length r) : w.rangeAt b 0 (l ++ r) := fun j v hv => by
  rcases Nat.lt_or_ge j l.length with q | q
  · rw [List.getElem?_append_left q] at hv; exact h j v hv
  · rw [List.getElem?_append_right q] at hv
    have := k (j - l.length) v hv
    rw [Nat.zero_add]
    rwa [show l.length + (j - l.length) = j by omega] at this
theorem range_tail {w : World} {b n : Nat} {l : List Value} (h : w.rangeAt b 0 l) : w.rangeAt b n (l.drop n) := fun j v hv => by
  rw [List.getElem?_drop] at hv
  have := h (n + j) v hv
  rwa [Nat.zero_add] at this
theorem size_setC (b : Nat) : ∀ (vs : List Value) (o : Nat) (w : World), (w.setCells b o vs).heap.size = w.heap.size
  | [], _, _ => rfl
  | v :: r, o, w => by rw [World.setCells, size_setC b r, World.size_setCell]
theorem capSize : (Tryz.prog.info? 37).map (·.size) = some 6 := by kernel_rfl
def startV (s : St) : Array Value := (capC s.st ++ (capC s.ar ++ (capC s.en ++ capC s.au))).toArray
set_option maxRecDepth 100000 in
set_option maxHeartbeats 8000000 in
theorem build_yes (W : World) (N M : Nat) (F : Nat → Prop) (m : Mm) (f : Nat) (p : Int) (a1 a2 a3 : Option Addr) (c1 c2 c3 : Nat) (l1 l2 : List (List UInt8)) (k : List Cp) (hm : Own1 W N F M m) (h1 : RdT W F a1 l1) (h2 : RdT W F a2 l2) (h3 : RdC W F a3 k) (hf : f < 18446744073709551616) (hp0 : -9223372036854775808 ≤ p) (hp1 : p < 9223372036854775808)
    (ht1 : textsB l1 = true) (ht2 : textsB l2 = true) (ht3 : auxB k = true) (hfit : ∀ c ∈ k, FitC c) (hr : roomB (needN l1 l2 k.length : Nat) p = true) (m1 : Mm) (hmm : mapF m f p = (m1, 0)) :
    Calls Tryz.prog 11 #[.pointer (some ⟨M, 0, none⟩), .int .u64 (f : Int), .int .i64 p, .slice a1 l1.length c1, .slice a2 l2.length c2, .slice a3 k.length c3] W fun e W' => e = .returned (.tuple #[.agg (startV (startS (f * 256) ((f + p).toNat * 256) l1 l2 k)), .int .i64 0]) ∧ ∃ F', Own1 W' N F' M (layM m1 (f * 256) l1 l2 k) ∧ Moves W W' F F' := by
  have HMP := Lib.hid (fun W1 (hb : Below W.heap.size W W1) => smap_any W1 N M F m (hm.below hb) (f : Int) p (by omega) (by omega) hp0 hp1)
  rw [hmm] at HMP
  simp only [] at HMP
  have hnb : ¬ F W.heap.size := fun hf => by have := hm.lt _ hf; omega
  have HNB := Lib.hid hnb
  have HN := Lib.hid hm.sz
  obtain ⟨o1, o2, o3⟩ := map_ok (m := m) (f := (f : Int)) (p := p) (by omega) (by rw [hmm])
  have H1 := Lib.hid h1
  have H2 := Lib.hid h2
  have H3 := Lib.hid h3
  have HF3 := Lib.hid hfit
  obtain ⟨n1, s1⟩ := texts_fit ht1
  obtain ⟨n2, s2⟩ := texts_fit ht2
  have n3 := aux_fit ht3
  have HT1 := Lib.hid (fun W1 (hb : Below W.heap.size W W1) => textsFit_any a1 c1 l1 W1 (h1.1.below hb) (by omega))
  have HT2 := Lib.hid (fun W1 (hb : Below W.heap.size W W1) => textsFit_any a2 c2 l2 W1 (h2.1.below hb) (by omega))
  have HA := Lib.hid (fun W1 (hb : Below W.heap.size W W1) => auxFits_any a3 c3 k W1 (h3.1.below hb) (by omega))
  have HND := Lib.hid (fun W1 (hb : Below W.heap.size W W1) => need_any a1 a2 a3 c1 c2 c3 k.length l1 l2 W1 (h1.1.below hb) (h2.1.below hb) (by omega) (by omega) (by omega) s1 s2)
  have hnd : needN l1 l2 k.length ≤ 100000 := by
    unfold needN upN
    have := lensN_le l1 s1
    have := lensN_le l2 s2
    omega
  have HRM := Lib.hid (fun W1 => roomFor_any (needN l1 l2 k.length : Nat) p W1 (by omega) (by omega) hp0 hp1)
  rw [ht1] at HT1
  rw [ht2] at HT2
  rw [ht3] at HA
  obtain ⟨W0, hW0⟩ : ∃ W0, W.alloc (.cells zero24 39) = W0 := ⟨_, rfl⟩
  have hb0 : Below W.heap.size W W0 := by rw [← hW0]; exact bAlloc (Below.refl _ _) _
  have HZ0 : Hid (BoxN W0 W.heap.size zero24) := Lib.hid (by rw [← hW0]; exact BoxN.new W _ _)
  have HB0 := Lib.hid hb0
  have HW0 := Lib.hid hW0
  have hneed : needN l1 l2 k.length + 64 ≤ p.toNat * 256 := by
    unfold roomB at hr
    rw [decide_eq_false (by omega), Bool.false_or, Bool.and_eq_true, decide_eq_true_eq, decide_eq_true_eq] at hr
    omega
  have HNEED := Lib.hid hneed
  clear hneed
  rw [hr] at HRM
  have hlen1 := lensN_le l1 s1
  have hlen2 := lensN_le l2 s2
  obtain ⟨x, hx⟩ : ∃ x, f * 256 = x := ⟨_, rfl⟩
  have hxx : x < 17000000 := by omega
  have v1 : IntKind.u64.wrap ((f : Int) * 256) = (x : Int) := by rw [IntKind.wrap_u64]; omega
  have HTX1 := Lib.hid (fun W1 b F1 (h : RegO W1 N b M F1 m1 x) (hr : RdT W1 (withB F1 b) a1 l1) => texts_any W1 N b M F1 m1 x a1 c1 l1 h hr (by omega) (by omega) s1)
  have HTX2 := Lib.hid (fun W1 b F1 (h : RegO W1 N b M F1 (layT m1 x l1) (x + lensN l1)) (hr : RdT W1 (withB F1 b) a2 l2) => texts_any W1 N b M F1 (layT m1 x l1) (x + lensN l1) a2 c2 l2 h hr (by omega) (by omega) s2)
  have HUP := Lib.hid (fun W1 => up_any (x + lensN l1 + lensN l2) W1 (by omega))
  have HN1 := Lib.hid n1
  have HN2 := Lib.hid n2
  have HN3 := Lib.hid n3
  have HLE1 := Lib.hid hlen1
  have HLE2 := Lib.hid hlen2
  have HXX := Lib.hid hxx
  have HO := Lib.hid (And.intro o1 (And.intro o2 o3))
  have HXE := Lib.hid hx
  rw [hx]
  clear hm h1 h2 h3 hf hp0 hp1 ht1 ht2 ht3 hr n1 s1 n2 s2 n3 hnd hb0 hW0 hmm hnb hlen1 hlen2 hxx o1 o2 o3 hfit hx
  go_enter Tryz.func11, Tryz.ntmps11
  go_upto_region 1 with fail
  (try rw [HW0.out])
  clear HW0
  go_upto_region 8 with (first
    | (go_at_call 31; refine (HRM.out _).mono ?_; rintro e w5 ⟨rfl, rfl⟩)
    | (go_at_call 10; refine (HND.out _ HB3.out).mono ?_; rintro e w4 ⟨rfl, hb⟩; have HZ4 := Lib.hid (boxN_below HZ3.out hb); have HB4 := Lib.hid (HB3.out.trans (hb.mono HB3.out.size)); clear hb)
    | (go_at_call 30; refine (HA.out _ HB2.out).mono ?_; rintro e w3 ⟨rfl, hb⟩; have HZ3 := Lib.hid (boxN_below HZ2.out hb); have HB3 := Lib.hid (HB2.out.trans (hb.mono HB2.out.size)); clear hb)
    | (go_at_call 29; refine (HT2.out _ HB1.out).mono ?_; rintro e w2 ⟨rfl, hb⟩; have HZ2 := Lib.hid (boxN_below HZ1.out hb); have HB2 := Lib.hid (HB1.out.trans (hb.mono HB1.out.size)); clear hb)
    | (go_at_call 29; refine (HT1.out _ HB0.out).mono ?_; rintro e w1 ⟨rfl, hb⟩; have HZ1 := Lib.hid (boxN_below HZ0.out hb); have HB1 := Lib.hid (HB0.out.trans (hb.mono HB0.out.size)); clear hb)
    | (go_at_call 8; refine (HMP.out _ HB4.out).mono ?_; rintro e w6 ⟨rfl, F', ho, hv⟩; have HZ6 := Lib.hid (HZ4.out.kp hv.kp HZ4.out.lt HNB.out); have HO6 := Lib.hid ho; have HV6 := Lib.hid hv; clear ho hv))
  go_upto_region 9 with fail
  obtain ⟨o, ho⟩ : ∃ o : Obj, .cells #[.pointer (some ⟨M, 0, none⟩), .int .u64 (x : Int)] 75 = o := ⟨_, rfl⟩
  obtain ⟨W7, hW7⟩ : ∃ W7, w6.alloc (.cells #[.pointer (some ⟨M, 0, none⟩), .int .u64 (x : Int)] 75) = W7 := ⟨_, rfl⟩
  (try rw [hW7])
  obtain ⟨B, hB⟩ : ∃ B, w6.heap.size = B := ⟨_, rfl⟩
  have hb7 : Below w6.heap.size w6 W7 := by rw [← hW7]; exact bAlloc (Below.refl _ _) _
  have hs7 : W7.heap.size = B + 1 := by rw [← hW7, size_alloc, hB]
  have hR7 : RegO W7 N B M F' m1 x := ⟨HO6.out.below hb7, by rw [← hW7, ← hB]; exact BoxN.new w6 _ _, fun hf => by have := HO6.out.lt _ hf; omega, by rw [← hB]; exact HO6.out.sz⟩
  have hq4 : KP W.heap.size F W w4 := KP.of_below F HB4.out
  have ha1 : RdT W7 (withB F' B) a1 l1 := by rw [← hW7, ← hB]; exact ((H1.out.kp hq4).move HV6.out).with _
  have ha2 : RdT W7 (withB F' B) a2 l2 := by rw [← hW7, ← hB]; exact ((H2.out.kp hq4).move HV6.out).with _
  have ha3 : RdC W7 (withB F' B) a3 k := by rw [← hW7, ← hB]; exact ((H3.out.kp hq4).move HV6.out).with _
  have HA2 := Lib.hid ha2
  have HA3 := Lib.hid ha3
  have HR7 := Lib.hid hR7
  have HRA1 := Lib.hid ha1
  have hZ7 := boxN_below HZ6.out hb7
  have HZ7 := Lib.hid hZ7
  have hRn : ¬ withB F' B W.heap.size := fun h => by
    rcases h with h | h
    · rcases HV6.out.sub _ h with h | h
      · exact HNB.out h
      · have := HZ4.out.lt; omega
    · have := HZ6.out.lt; omega
  have HRN := Lib.hid hRn
  have HM7 : Hid (KP W.heap.size F W W7) := Lib.hid (kp_trans2 (kp_trans2 hq4 HV6.out.kp HB4.out.size) (KP.of_below F hb7) (Nat.le_trans HB4.out.size HV6.out.kp.size))
  have HSZ6 := Lib.hid HV6.out.kp.size
  rw [hB] at HSZ6
  have HBS : Hid (W.heap.size ≤ B) := Lib.hid (Nat.le_trans HB4.out.size HSZ6.out)
  have HS7 := Lib.hid hs7
  clear hb7 hs7 hR7 ha1 ha2 ha3 hq4 hZ7 hRn ho o
  clear hW7
  go_upto_region 10 with (first
    | (go_at_call 32; refine (HTX2.out w8 B F' HR8.out (HA2.out.kp HK8.out)).mono ?_; rintro e w9 ⟨ra2, rc2, rfl, ho9, hr9, hk9⟩; have HO9 := Lib.hid ho9; have HR9 := Lib.hid hr9; have HK9 := Lib.hid hk9; clear ho9 hr9 hk9)
    | (go_at_call 32; refine (HTX1.out W7 B F' HR7.out HRA1.out).mono ?_; rintro e w8 ⟨ra1, rc1, rfl, ho8, hr8, hk8⟩; have HO8 := Lib.hid ho8; have HR8 := Lib.hid hr8; have HK8 := Lib.hid hk8; clear ho8 hr8 hk8))
  have q9 : w9.cell? ⟨B, 1, none⟩ = some (.int .u64 ((x + lensN l1 + lensN l2 : Nat) : Int)) := HR9.out.box.cell 1
  have f9 : w9.frozen? ⟨B, 1, none⟩ = false := HR9.out.box.frozen 1
  obtain ⟨z, hz⟩ : ∃ z, x + lensN l1 + lensN l2 = z := ⟨_, rfl⟩
  rw [hz] at HUP q9 HR9
  have HZE := Lib.hid hz
  clear hz
  obtain ⟨u, hu⟩ : ∃ u, upN z = u := ⟨_, rfl⟩
  rw [hu] at HUP
  have huz : u ≤ z + 31 := by rw [← hu]; unfold upN; omega
  have hu9 : u < 17100000 := by have := HZE.out; have := HLE1.out; have := HLE2.out; have := HXX.out; have := HN1.out; have := HN2.out; omega
  have HU9 := Lib.hid hu9
  have HUE := Lib.hid hu
  clear hu huz hu9
  go_upto_region 11 with (go_at_call 28; refine (HUP.out _).mono ?_; rintro e w10 ⟨rfl, rfl⟩)
  obtain ⟨w10, hw10⟩ : ∃ w10, w9.setCell ⟨B, 1, none⟩ (.int .u64 (u : Int)) = w10 := ⟨_, rfl⟩
  have hR10 : RegO w10 N B M F' (layT (layT m1 x l1) (x + lensN l1) l2) u := by rw [← hw10]; exact HR9.out.step u
  have hK10 : KP w9.heap.size (withB F' B) w9 w10 := by rw [← hw10]; exact KP.setB (KP.refl _ _ _) _
  have HK810 := Lib.hid (kp_trans2 HK9.out hK10 HK9.out.size)
  have HK710 := Lib.hid (kp_trans2 HK8.out HK810.out HK8.out.size)
  have HR10 := Lib.hid hR10
  have hnew7 : ∀ q, W7.heap.size ≤ q → ¬ withB F' B q := fun q hq => HR7.out.new (W' := W7) hq
  have hnew8 : ∀ q, w8.heap.size ≤ q → ¬ withB F' B q := fun q hq => HR8.out.new (W' := W7) hq
  have ho1 := own_kp2 HO8.out HK810.out hnew7
  have ho2 := own_kp2 HO9.out hK10 hnew8
  rw [← capsT_len l1 x] at ho1
  rw [← capsT_len l2 (x + lensN l1)] at ho2
  have HC1 := Lib.hid (RdC.own (W := w10) ho1 hnew7)
  have HC2 := Lib.hid (RdC.own (W := w10) ho2 hnew8)
  have HC3 := Lib.hid (HA3.out.kp HK710.out)
  have hb := And.intro HXX.out (And.intro HLE1.out (And.intro HLE2.out (And.intro HN1.out (And.intro HN2.out (And.intro HN3.out HU9.out)))))
  have HL1 := Lib.hid (fun W1 (h : RegO W1 N B M F' (layT (layT m1 x l1) (x + lensN l1) l2) u) (hr : RdC W1 (withB F' B) ra1 (capsT x l1)) => list_any W1 N B M F' _ u ra1 rc1 (capsT x l1) h hr (by omega) (by rw [capsT_len]; omega) (caps_fit l1 x (by omega)))
  have HL2 := Lib.hid (fun W1 mm (h : RegO W1 N B M F' mm (u + 32 * (l1.length + 1))) (hr : RdC W1 (withB F' B) ra2 (capsT (x + lensN l1) l2)) => list_any W1 N B M F' mm (u + 32 * (l1.length + 1)) ra2 rc2 (capsT (x + lensN l1) l2) h hr (by omega) (by rw [capsT_len]; omega) (caps_fit l2 _ (by omega)))
  have HL3 := Lib.hid (fun W1 mm (h : RegO W1 N B M F' mm (u + 32 * (l1.length + 1) + 32 * (l2.length + 1))) (hr : RdC W1 (withB F' B) a3 k) => list_any W1 N B M F' mm (u + 32 * (l1.length + 1) + 32 * (l2.length + 1)) a3 c3 k h hr (by omega) (by omega) HF3.out)
  rw [capsT_len] at HL1 HL2
  clear hR10 hK10 hnew7 hnew8 ho1 ho2 hb
  (try rw [hw10])
  clear hw10
  go_wp2_with (first
    | (go_at_call 33; (with_reducible refine (HL2.out w11 _ HR11.out (HC2.out.kp HK11.out)).mono ?_); rintro e w12 ⟨rfl, hr, hk⟩; have HR12 := Lib.hid hr; have HK12 := Lib.hid (kp_trans2 HK11.out hk HK11.out.size); clear hr hk)
    | (go_at_call 33; (with_reducible refine (HL1.out w10 HR10.out HC1.out).mono ?_); rintro e w11 ⟨rfl, hr, hk⟩; have HR11 := Lib.hid hr; have HK11 := Lib.hid hk; clear hr hk))
  refine (HL3.out w12 _ HR12.out (HC3.out.kp HK12.out)).mono ?_
  rintro e w13 ⟨rfl, hr, hk⟩
  have HR13 := Lib.hid hr
  have HK13 := Lib.hid (kp_trans2 HK12.out hk HK12.out.size)
  clear hr hk
  simp only []
  go_at_K
  rename_i hK
  refine hK _ _ ?_
  clear hK
  obtain ⟨C24, hC24⟩ : ∃ C24 : Array Value, #[.int .u64 0, .int .u64 0, .int .u64 0, .int .i64 0, .int .i64 0, .bool false, .int .u64 (u : Int), .int .u64 ((u + 32 * l1.length : Nat) : Int), .int .u64 (u : Int), .int .i64 9, .int .i64 (-1), .bool true, .int .u64 ((u + 32 * (l1.length + 1) : Nat) : Int), .int .u64 ((u + 32 * (l1.length + 1) + 32 * l2.length : Nat) : Int), .int .u64 ((u + 32 * (l1.length + 1) : Nat) : Int), .int .i64 9, .int .i64 (-1), .bool true, .int .u64 ((u + 32 * (l1.length + 1) + 32 * (l2.length + 1) : Nat) : Int), .int .u64 ((u + 32 * (l1.length + 1) + 32 * (l2.length + 1) + 32 * k.length : Nat) : Int), .int .u64 ((u + 32 * (l1.length + 1) + 32 * (l2.length + 1) : Nat) : Int), .int .i64 9, .int .i64 (-1), .bool true] = C24 := ⟨_, rfl⟩
  have hc1 : C24.size = 24 := by rw [← hC24]; rfl
  have hc2 : C24.all (·.oneCell') = true := by rw [← hC24]; kernel_rfl
  refine wpList_buildTo rfl 39 _ rfl (some 67) rfl C24 (by rw [← hC24]; kernel_rfl) ?_
  refine Great.wpList_allocTo rfl (some 18) rfl (.pointer (some ⟨w13.heap.size, 0, none⟩)) (.cells zero24 39) (by kernel_rfl) ?_
  refine wpList_store_mid rfl _ _ _ rfl w13.heap.size 0 C24 rfl rfl (by rw [hc1]; exact (BoxN.new w13 zero24 39).there) (by rw [hc1]; exact startSize) hc2 ?_
  obtain ⟨w14, hw14⟩ : ∃ w14, (w13.alloc (.cells zero24 39)).setCells w13.heap.size 0 C24.toList = w14 := ⟨_, rfl⟩
  have hG14 : w14.rangeAt w13.heap.size 0 C24.toList := by rw [← hw14]; exact World.rangeAt_setCells_same _ _ _ _ (by rw [Array.length_toList, hc1]; exact (BoxN.new w13 zero24 39).there)
  have hB14 : Below w13.heap.size w13 w14 := by rw [← hw14]; exact below_setCells _ (Nat.le_refl _) _ _ _ (bAlloc (Below.refl _ _) _)
  (try rw [hw14])
  have HG14 := Lib.hid hG14
  have HB14 := Lib.hid hB14
  have HT14 : Hid (w14.there w13.heap.size 0 24) := Lib.hid (by rw [← hw14]; exact World.there_setCells (BoxN.new w13 zero24 39).there _ _ _)
  have HL14 : Hid (w13.heap.size < w14.heap.size) := Lib.hid (by rw [← hw14, size_setC, size_alloc]; omega)
  have HC24 := Lib.hid (And.intro hc1 hC24)
  clear hG14 hB14 hw14 hc1 hc2 hC24 HL1 HL2 HL3 HUP HTX1 HTX2
  obtain ⟨o1, o2, o3⟩ := HO.out
  obtain ⟨y, hy⟩ : ∃ y, ((f : Int) + p).toNat * 256 = y := ⟨_, rfl⟩
  have vp : IntKind.u64.wrap p = p := by rw [IntKind.wrap_u64]; omega
  have vfp : IntKind.u64.wrap ((f : Int) + p) = (f : Int) + p := by rw [IntKind.wrap_u64]; omega
  have vy : IntKind.u64.wrap (((f : Int) + p) * 256) = (y : Int) := by rw [IntKind.wrap_u64]; omega
  have hxy : u + 32 * (l1.length + 1) + 32 * (l2.length + 1) + 32 * (k.length + 1) ≤ y := by
    have q1 := HNEED.out
    have q2 := HUE.out
    rw [← HZE.out, ← HXE.out, Nat.add_assoc, up_add] at q2
    unfold needN at q1
    omega
  have hst := stack_any w14 N B M F' _ _ y (HR13.out.below HB14.out) (by have := HU9.out; have := HN1.out; have := HN2.out; have := HN3.out; omega) hxy (by omega)
  have HST := Lib.hid hst
  have HY := Lib.hid hy
  clear hst hxy hy o1 o2 o3
  go_wp2_with fail
  refine HST.out.mono ?_
  rintro e w15 ⟨rfl, hb15⟩
  have HB15 := Lib.hid hb15
  clear hb15
  simp only []
  go_at_K
  rename_i hK
  refine hK _ _ ?_
  clear hK
  refine Great.wpList_readTo rfl (some 74) rfl (.pointer (some ⟨w13.heap.size, 0, none⟩)) (by kernel_rfl) ?_
  have ht14 : w14.there w13.heap.size 0 24 := HT14.out
  have ht15 := there_below ht14 HB15.out HL14.out
  obtain ⟨C6, hC6⟩ : ∃ C6 : Array Value, #[.int .u64 ((u + 32 * (l1.length + 1) + 32 * (l2.length + 1) + 32 * (k.length + 1) : Nat) : Int), .int .u64 (y : Int), .int .u64 (y : Int), .int .i64 27, .int .i64 (-1), .bool true] = C6 := ⟨_, rfl⟩
  have hs6 : C6.size = 6 := by rw [← hC6]; rfl
  refine wpList_store_mid rfl _ _ _ rfl w13.heap.size 0 C6 rfl (by rw [← hC6]; rfl) (by rw [hs6]; exact fun j hj => ht15 j (by omega)) (by rw [hs6]; exact capSize) (by rw [← hC6]; kernel_rfl) ?_
  obtain ⟨w16, hw16⟩ : ∃ w16, w15.setCells w13.heap.size 0 C6.toList = w16 := ⟨_, rfl⟩
  have hl6 : C6.toList.length = 6 := by rw [Array.length_toList, hs6]
  have hg16 : w16.rangeAt w13.heap.size 0 (C6.toList ++ C24.toList.drop 6) := by
    rw [← hw16]
    refine range_app ?_ ?_
    · exact World.rangeAt_setCells_same _ _ _ _ (by rw [hl6]; exact fun j hj => ht15 j (by omega))
    · rw [hl6]
      exact World.rangeAt_setCells_apart (range_tail (range_below HG14.out HB15.out HL14.out)) _ _ _ (Or.inr (Or.inr (by rw [hl6]; omega)))
  obtain ⟨D, hD⟩ : ∃ D : List Value, C6.toList ++ C24.toList.drop 6 = D := ⟨_, rfl⟩
  rw [hD] at hg16
  have hDl : D.length = 24 := by rw [← hD, List.length_append, hl6, List.length_drop, Array.length_toList, HC24.out.1]
  have hD1 : D.toArray.all (·.oneCell') = true := by rw [← hD, ← hC6, ← HC24.out.2]; kernel_rfl
  have hDv : startV (startS (f * 256) (((f : Int) + p).toNat * 256) l1 l2 k) = D.toArray := by
    rw [← hD, ← hC6, ← HC24.out.2, HXE.out, HY.out]
    unfold startS listN
    rw [HZE.out, HUE.out]
    rfl
  rw [HXE.out] at hDv
  have hgs : w16.heap.size = w15.heap.size := by rw [← hw16]; exact size_setC _ _ _ _
  have hk713 := kp_trans2 HK710.out HK13.out HK710.out.size
  have hz13 := HZ7.out.kp hk713 HZ7.out.lt HRN.out
  have hz16 : BoxN w15 W.heap.size zero24 := boxN_below (boxN_below hz13 HB14.out) HB15.out
  have hltT : W.heap.size < w13.heap.size := hz13.lt
  have htW : w16.there W.heap.size 0 24 := by rw [← hw16]; exact World.there_setCells hz16.there _ _ _
  have hkW : KP W.heap.size F W w16 := by
    rw [← hw16]
    refine kp_setCells _ (Or.inl (Nat.le_of_lt hltT)) _ _ _ ?_
    have hk1 : KP W.heap.size F W7 w13 := hk713.mono HM7.out.size (fun b hb hS => by
      rcases hS with hS | hS
      · rcases HV6.out.sub b hS with h | h
        · exact h
        · have := HB4.out.size; omega
      · have := HBS.out; omega)
    refine kp_trans2 (kp_trans2 (KP.trans HM7.out hk1) (KP.of_below F HB14.out) (Nat.le_of_lt hltT)) (KP.of_below F HB15.out) ?_
    have := HL14.out
    omega
  have hnT : ¬ F' w13.heap.size := fun hf => by have := HR13.out.own.lt _ hf; omega
  have ho16 := ((HR13.out.own.below HB14.out).below HB15.out).setCells hnT 0 C6.toList
  rw [hw16] at ho16
  have hm16 : layM m1 (f * 256) l1 l2 k = layC (layC (layC (layT (layT m1 x l1) (x + lensN l1) l2) u (capsT x l1 ++ [nullC])) (u + 32 * (l1.length + 1)) (capsT (x + lensN l1) l2 ++ [nullC])) (u + 32 * (l1.length + 1) + 32 * (l2.length + 1)) (k ++ [nullC]) := by
    unfold layM listN
    rw [HXE.out, HZE.out, HUE.out]
  rw [← hm16, HXE.out] at ho16
  have hnW : ¬ F' W.heap.size := fun h => HRN.out (Or.inl h)
  have ho17 := ho16.setCells hnW 0 D
  have hk17 : KP W.heap.size F W (w16.setCells W.heap.size 0 D) := kp_setCells _ (Or.inl (Nat.le_refl _)) _ _ _ hkW
  have hmv : Moves W (w16.setCells W.heap.size 0 D) F F' := ⟨fun b hb => (HV6.out.sub b hb).imp id (fun h => Nat.le_trans HB4.out.size h), hk17⟩
  have hr17 := World.rangeAt_setCells_same w16 W.heap.size 0 D (by rw [hDl]; exact htW)
  have HO17 := Lib.hid ho17
  have HMV := Lib.hid hmv
  have HR17 := Lib.hid hr17
  have HD := Lib.hid hD
  have HDL := Lib.hid hDl
  have HD1 := Lib.hid hD1
  have HDV := Lib.hid hDv
  have HG16 := Lib.hid hg16
  have HTW := Lib.hid htW
  clear ho17 hmv hr17 hD hDl hD1 hDv hg16 htW ho16 hm16 hnW hk17 hkW hnT hltT hz16 hz13 hk713 hgs hl6 hs6 hC6 ht14 ht15 vp vfp vy
  (try rw [hw16])
  clear hw16
  go_upto_region 13 with fail
  apply wp_region_lit
  refine wpList_load_mid rfl _ _ rfl w13.heap.size 0 rfl D _ HG16.out Tryz.underlying39 rfl (by rw [HDL.out]; exact startSize) ?_
  refine wpList_store_mid rfl _ _ _ rfl W.heap.size 0 D.toArray rfl rfl (by show w16.there _ 0 D.length; rw [HDL.out]; exact HTW.out) (by show _ = some D.length; rw [HDL.out]; exact startSize) HD1.out ?_
  obtain ⟨w17, hw17⟩ : ∃ w17, w16.setCells W.heap.size 0 D = w17 := ⟨_, rfl⟩
  rw [hw17] at HO17 HMV HR17
  show wpList _ _ _ _ _ (w16.setCells W.heap.size 0 D)
  rw [hw17]
  clear hw17 HG16 HTW HD1
  go_wp2_with fail
  refine bodyPost_ret (v := .tuple #[.agg D.toArray, .int .i64 0]) ?_ rfl ⟨by rw [HDV.out], F', HO17.out, HMV.out⟩
  exact results_cell_tmp Tryz.results11 _ _ W.heap.size D _ _ rfl rfl HR17.out Tryz.underlying39 rfl (by rw [HDL.out]; exact startSize)
end Go.Proofs.YtjefkhieihigiaaGreat
