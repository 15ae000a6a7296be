/- The region: a capability, a list, texts, the stack. -/
import Derived.Test.YtjefkhieihigiaaGreatAbR
import Derived.Test.YtjefkhieihigiaaGreatAbD
import Derived.Test.YtjefkhieihigiaaGreatAbB
import Derived.Deep.RegionHeld3
import Derived.Deep.RegionLaw
namespace Go.Proofs.YtjefkhieihigiaaGreat
set_option linter.unusedVariables false
set_option linter.unusedSimpArgs false
open Go.Joins Go.ChangeShapes Go.WideShapes Go.ChangeAt Go.RowKit Go.Deep

/-- what changes: the memory's blocks and the region's -/
def withB (F : Nat → Prop) (b : Nat) : Nat → Prop := fun q => F q ∨ q = b
/-- a region in block b, over a memory in blocks F, all from N on -/
structure RegO (W : World) (N b M : Nat) (F : Nat → Prop) (m : Mm) (x : Nat) : Prop where
  own : Own1 W N F M m
  box : BoxN W b #[.pointer (some ⟨M, 0, none⟩), .int .u64 (x : Int)]
  nb : ¬ F b
  ge : N ≤ b
theorem RegO.below {W W' : World} {N b M : Nat} {F : Nat → Prop} {m : Mm} {x : Nat} (h : RegO W N b M F m x) (hb : Below W.heap.size W W') : RegO W' N b M F m x :=
  ⟨h.own.below hb, boxN_below h.box hb, h.nb, h.ge⟩
theorem RegO.lt {W : World} {N b M : Nat} {F : Nat → Prop} {m : Mm} {x : Nat} (h : RegO W N b M F m x) : b < W.heap.size := h.box.lt
theorem RegO.mem {W W' : World} {N b M : Nat} {F : Nat → Prop} {m m' : Mm} {x : Nat} (h : RegO W N b M F m x) (h1 : MemAt W' M F m') (hk : KP W.heap.size F W W') : RegO W' N b M F m' x :=
  ⟨(own_step h.own h1 (fun _ q => Or.inl q) hk).1, h.box.kp hk h.lt h.nb, h.nb, h.ge⟩
theorem RegO.step {W : World} {N b M : Nat} {F : Nat → Prop} {m : Mm} {x : Nat} (h : RegO W N b M F m x) (y : Nat) : RegO (W.setCell ⟨b, 1, none⟩ (.int .u64 (y : Int))) N b M F m y :=
  ⟨⟨h.own.mem.kp (KP.set1 W b 1 _) (Nat.le_refl _) (fun q hq e => h.nb (e ▸ hq)), h.own.ge, by rw [World.size_setCell]; exact h.own.sz⟩, h.box.set 1 _, h.nb, h.ge⟩
theorem RegO.stepI {W : World} {N b M : Nat} {F : Nat → Prop} {m : Mm} {x : Nat} (h : RegO W N b M F m x) (y : Nat) (v : Int) (hv : v = (y : Int)) : RegO (W.setCell ⟨b, 1, none⟩ (.int .u64 v)) N b M F m y := by subst hv; exact h.step y
theorem kp_undrew {S : Nat → Prop} {w w' : World} (h : KP w.drew.heap.size S w.drew w') : KP w.heap.size S w w' := ⟨h.os, h.tape, h.output, h.size, h.block⟩
theorem kp_with {W W' : World} {n : Nat} {F : Nat → Prop} (b : Nat) (h : KP n F W W') : KP n (withB F b) W W' := h.mono (Nat.le_refl _) (fun _ _ q => Or.inl q)
theorem KP.setB {W W' : World} {n : Nat} {F : Nat → Prop} {b : Nat} (h : KP n (withB F b) W W') (u : Value) : KP n (withB F b) W (W'.setCell ⟨b, 1, none⟩ u) := h.set ⟨b, 1, none⟩ (Or.inr (Or.inr rfl)) u
def capV (c : Cp) : Value := .agg #[.int .u64 c.b, .int .u64 c.t, .int .u64 c.a, .int .i64 c.p, .int .i64 c.y, .bool c.g]
set_option maxHeartbeats 2000000 in
theorem give_any (W : World) (N b M : Nat) (F : Nat → Prop) (m : Mm) (x : Nat) (c : Cp) (h : RegO W N b M F m x) (hx : x < 1000000000) (hc : FitC c) :
    Calls Tryz.prog 56 #[.pointer (some ⟨b, 0, none⟩), capV c] W fun e W' => e = .returned (.tuple #[]) ∧ RegO W' N b M F (storeC m x c).1 (x + 32) ∧ KP W.heap.size (withB F b) W W' := by
  unfold capV
  obtain ⟨W0, hW0⟩ : ∃ W0, W.alloc (.cells #[.int .u64 c.b, .int .u64 c.t, .int .u64 c.a, .int .i64 c.p, .int .i64 c.y, .bool c.g] 37) = W0 := ⟨_, rfl⟩
  have hb0 : Below W.heap.size W W0 := by rw [← hW0]; exact bAlloc (Below.refl _ _) _
  have hz : BoxN W0 W.heap.size #[.int .u64 c.b, .int .u64 c.t, .int .u64 c.a, .int .i64 c.p, .int .i64 c.y, .bool c.g] := by rw [← hW0]; exact BoxN.new W _ _
  have HR0 := Lib.hid (h.below hb0)
  have HK0 := Lib.hid (KP.of_below (withB F b) hb0)
  have hnf : ¬ F W.heap.size := fun q => absurd (h.own.lt _ q) (Nat.lt_irrefl _)
  have HNF := Lib.hid hnf
  clear hnf
  have C : Hid (∀ W1 : World, MemAt W1 M F m → Calls Tryz.prog 73 #[.pointer (some ⟨M, 0, none⟩), .int .u64 (x : Int), .agg #[.int .u64 c.b, .int .u64 c.t, .int .u64 c.a, .int .i64 c.p, .int .i64 c.y, .bool c.g]] W1 fun e W' => e = .returned (.int .i64 (storeC m x c).2) ∧ MemAt W' M F (storeC m x c).1 ∧ KP W1.heap.size F W1 W') := Lib.hid (fun W1 h1 => storeC_any W1 M F m h1 x c (by omega) hc)
  have HW0 := Lib.hid hW0
  have hw : IntKind.u64.wrap ((x : Int) + 32) = ((x + 32 : Nat) : Int) := by rw [IntKind.wrap_u64]; omega
  have hw2 : IntKind.u64.wrap ((x : Int) + 32) = (x : Int) + 32 := by rw [IntKind.wrap_u64]; omega
  obtain ⟨m', hm'⟩ : ∃ m', storeC m x c = m' := ⟨_, rfl⟩
  rw [hm'] at C ⊢
  clear h hx hc hb0 hW0 hm' hw
  go_enter Tryz.func56, Tryz.ntmps56
  go_upto_region 1 with fail
  (try rw [HW0.out])
  clear HW0
  have hcell : ∀ W1 : World, BoxN W1 b #[.pointer (some ⟨M, 0, none⟩), .int .u64 (x : Int)] → BoxN W1 W.heap.size #[.int .u64 c.b, .int .u64 c.t, .int .u64 c.a, .int .i64 c.p, .int .i64 c.y, .bool c.g] → (W1.cell? ⟨b, 0, none⟩ = some (.pointer (some ⟨M, 0, none⟩)) ∧ W1.cell? ⟨b, 1, none⟩ = some (.int .u64 (x : Int)) ∧ W1.cell? ⟨W.heap.size, 0, none⟩ = some (.int .u64 c.b) ∧ W1.cell? ⟨W.heap.size, 1, none⟩ = some (.int .u64 c.t) ∧ W1.cell? ⟨W.heap.size, 2, none⟩ = some (.int .u64 c.a) ∧ W1.cell? ⟨W.heap.size, 3, none⟩ = some (.int .i64 c.p) ∧ W1.cell? ⟨W.heap.size, 4, none⟩ = some (.int .i64 c.y) ∧ W1.cell? ⟨W.heap.size, 5, none⟩ = some (.bool c.g)) :=
    fun W1 h1 h2 => ⟨h1.cell 0, h1.cell 1, h2.cell 0, h2.cell 1, h2.cell 2, h2.cell 3, h2.cell 4, h2.cell 5⟩
  have HS0 := Lib.hid (hcell W0 HR0.out.box hz)
  have HSd := Lib.hid (hcell W0.drew HR0.out.box hz)
  have HCELL := Lib.hid hcell
  have HZ := Lib.hid hz
  clear hcell hz
  go_region_held3 (fun W1 => W1.cell? ⟨b, 0, none⟩ = some (.pointer (some ⟨M, 0, none⟩)) ∧ W1.cell? ⟨b, 1, none⟩ = some (.int .u64 (x : Int)) ∧ W1.cell? ⟨W.heap.size, 0, none⟩ = some (.int .u64 c.b) ∧ W1.cell? ⟨W.heap.size, 1, none⟩ = some (.int .u64 c.t) ∧ W1.cell? ⟨W.heap.size, 2, none⟩ = some (.int .u64 c.a) ∧ W1.cell? ⟨W.heap.size, 3, none⟩ = some (.int .i64 c.p) ∧ W1.cell? ⟨W.heap.size, 4, none⟩ = some (.int .i64 c.y) ∧ W1.cell? ⟨W.heap.size, 5, none⟩ = some (.bool c.g))
    (first | with_reducible exact HSd.out | with_reducible exact HS0.out | with_reducible exact HS2.out)
    (first | (go_at_call 73; (with_reducible refine (C.out W0.drew (HR0.out.own.mem.below (Below.drew (Below.refl _ _)))).mono ?_); rintro e W2 ⟨rfl, h2, k2⟩; have HR2 := Lib.hid ((HR0.out.below (Below.drew (Below.refl _ _))).mem h2 k2); have HK2 := Lib.hid k2; have HS2 := Lib.hid (HCELL.out W2 HR2.out.box (BoxN.kp (W := W0.drew) HZ.out k2 HZ.out.lt HNF.out)); clear h2 k2))
  have q1 : W2.cell? ⟨b, 1, none⟩ = some (.int .u64 (x : Int)) := HR2.out.box.cell 1
  have f1 : W2.frozen? ⟨b, 1, none⟩ = false := HR2.out.box.frozen 1
  clear HS0 HSd HS2 HCELL HZ
  go_wp2_with fail
  go_end0
  exact ⟨rfl, HR2.out.stepI (x + 32) _ (by omega), KP.setB (HK0.out.trans ((kp_with b (kp_undrew HK2.out)).mono HK0.out.size (fun _ _ q => q))) _⟩
theorem kp_set6 {n : Nat} {S : Nat → Prop} {A B : World} (h : KP n S A B) (R : Nat) (hR : n ≤ R ∨ S R) (v0 v1 v2 v3 v4 v5 : Value) : KP n S A ((((((B.setCell ⟨R, 0, none⟩ v0).setCell ⟨R, 1, none⟩ v1).setCell ⟨R, 2, none⟩ v2).setCell ⟨R, 3, none⟩ v3).setCell ⟨R, 4, none⟩ v4).setCell ⟨R, 5, none⟩ v5) :=
  (((((h.set ⟨R, 0, none⟩ hR v0).set ⟨R, 1, none⟩ hR v1).set ⟨R, 2, none⟩ hR v2).set ⟨R, 3, none⟩ hR v3).set ⟨R, 4, none⟩ hR v4).set ⟨R, 5, none⟩ hR v5
theorem RegO.off {W W' : World} {N b M R : Nat} {F : Nat → Prop} {m : Mm} {x : Nat} (h : RegO W N b M F m x) (hk : KP W.heap.size (· = R) W W') (hR : ¬ withB F b R) : RegO W' N b M F m x :=
  ⟨⟨h.own.mem.kp hk (Nat.le_refl _) (fun q hq e => hR (Or.inl (e ▸ hq))), h.own.ge, Nat.le_trans h.own.sz hk.size⟩, h.box.kp hk h.lt (fun e => hR (Or.inr e.symm)), h.nb, h.ge⟩
/-- what is new is none of it -/
theorem RegO.new {W W' : World} {N b M : Nat} {F : Nat → Prop} {m : Mm} {x : Nat} (h : RegO W N b M F m x) {q : Nat} (hq : W.heap.size ≤ q) : ¬ withB F b q := fun hf => by
  rcases hf with hf | hf
  · have := h.own.lt _ hf; omega
  · have := h.lt; omega
theorem kp_trans2 {n : Nat} {S : Nat → Prop} {A B C : World} (h : KP n S A B) (k : KP B.heap.size S B C) (hn : n ≤ B.heap.size) : KP n S A C := h.trans (k.mono hn (fun _ _ q => q))
set_option maxHeartbeats 4000000 in
theorem list_any (W : World) (N b M : Nat) (F : Nat → Prop) (m : Mm) (x : Nat) (a : Option Addr) (cp : Nat) (l : List Cp) (h : RegO W N b M F m x) (hr : RdC W (withB F b) a l) (hx : x < 100000000) (hl : l.length ≤ 1000) (hf : ∀ c ∈ l, FitC c) :
    Calls Tryz.prog 33 #[.pointer (some ⟨b, 0, none⟩), .slice a l.length cp] W fun e W' => e = .returned (.agg #[.int .u64 (x : Int), .int .u64 ((x + 32 * l.length : Nat) : Int), .int .u64 (x : Int), .int .i64 9, .int .i64 (-1), .bool true]) ∧ RegO W' N b M F (layC m x (l ++ [nullC])) (x + 32 * (l.length + 1)) ∧ KP W.heap.size (withB F b) W W' := by
  have hsn := layC_snoc l m x nullC
  obtain ⟨W0, hW0⟩ : ∃ W0, W.alloc (.cells #[.int .u64 0, .int .u64 0, .int .u64 0, .int .i64 0, .int .i64 0, .bool false] 37) = W0 := ⟨_, rfl⟩
  have hb0 : Below W.heap.size W W0 := by rw [← hW0]; exact bAlloc (Below.refl _ _) _
  have HR0 := Lib.hid (h.below hb0)
  have HRC0 := Lib.hid (hr.kp (KP.of_below (withB F b) hb0))
  have HZ0 : Hid (BoxN W0 W.heap.size #[.int .u64 0, .int .u64 0, .int .u64 0, .int .i64 0, .int .i64 0, .bool false]) := Lib.hid (by rw [← hW0]; exact BoxN.new W _ _)
  have HK0 := Lib.hid (KP.of_below (withB F b) hb0)
  have HNB := Lib.hid (h.new (W' := W) (Nat.le_refl W.heap.size))
  have HNEW := Lib.hid (fun q (hq : W.heap.size ≤ q) => h.new (W' := W) hq)
  have HFI := Lib.hid hf
  have HW0 := Lib.hid hW0
  have HX := Lib.hid hx
  have HSN := Lib.hid hsn
  have HGV := Lib.hid (fun (c : Cp) (m1 : Mm) (y : Nat) W1 (h1 : RegO W1 N b M F m1 y) (hy : y < 1000000000) (hc : FitC c) => give_any W1 N b M F m1 y c h1 hy hc)
  unfold capV at HGV
  obtain ⟨n, hn⟩ : ∃ n, l.length = n := ⟨_, rfl⟩
  have HN := Lib.hid hn
  rw [hn] at hl ⊢
  have HL := Lib.hid hl
  clear h hr hx hl hf hb0 hsn hn hW0
  go_enter Tryz.func33, Tryz.ntmps33
  go_upto_region 1 with fail
  (try rw [HW0.out])
  clear HW0
  obtain ⟨R, hR⟩ : ∃ R, W.heap.size = R := ⟨_, rfl⟩
  rw [hR] at HZ0 HNB ⊢
  have q1 : W0.cell? ⟨b, 1, none⟩ = some (.int .u64 (x : Int)) := HR0.out.box.cell 1
  go_wp2_with fail
  clear q1
  obtain ⟨wz, hwz⟩ : ∃ wz : World, wz = W := ⟨_, rfl⟩
  go_loopw [15] (fun i wr => ∃ k : Nat, k ≤ n ∧ i = .int .i64 (k : Int) ∧ Hid (RegO wr N b M F (layC m x (l.take k)) (x + 32 * k)) ∧ Hid (KP W0.heap.size (withB F b) W0 wr) ∧ Hid (BoxN wr R #[.int .u64 0, .int .u64 0, .int .u64 0, .int .i64 0, .int .i64 0, .bool false])) (fun i _ => n - (intOf i).toNat)
  case atStart => exact ⟨0, Nat.zero_le _, rfl, HR0, Lib.hid (KP.refl _ _ _), HZ0⟩
  case round =>
    obtain ⟨k, hk, rfl, HR, HK, HZ⟩ := hrel
    have hx := HX.out
    have hl := HL.out
    by_cases hkn : k < n
    · have hkl : k < l.length := by rw [HN.out]; exact hkn
      obtain ⟨g, off, hge, hcs⟩ := RdC.at_ (HRC0.out.kp HK.out) hkl
      subst hge
      have hfc := HFI.out l[k] (List.getElem_mem hkl)
      have hlay : layC m x (l.take (k + 1)) = (storeC (layC m x (l.take k)) ((x + 32 * k : Nat) : Int) l[k]).1 := by
        rw [List.take_succ_eq_append_getElem hkl, layC_snoc, List.length_take, Nat.min_eq_left (Nat.le_of_lt hkl)]
      obtain ⟨c, hc⟩ : ∃ c, l[k] = c := ⟨_, rfl⟩
      rw [hc] at hcs hfc hlay
      obtain ⟨c0, c1, c2, c3, c4, c5⟩ := hcs
      have HG := Lib.hid (fun W1 h1 => HGV.out c (layC m x (l.take k)) (x + 32 * k) W1 h1 (by omega) hfc)
      obtain ⟨cb, ct, ca, cp', cy, cg⟩ := c
      simp only [] at c0 c1 c2 c3 c4 c5 HG
      have HLAY := Lib.hid hlay
      have kk0 : (0 : Int) ≤ (k : Int) := by omega
      have kk1 : (k : Int) < (n : Int) := by omega
      have hd1 : decide ((k : Int) < (n : Int)) = true := decide_eq_true kk1
      clear hkl hfc hlay hc hx
      go_wp2_with (go_at_call 56; refine (HG.out _ (HR.out.below (bAlloc (Below.refl _ _) _))).mono ?_; rintro e w2 ⟨rfl, hr2, hk2⟩; have HR2 := Lib.hid hr2; have HK2 := Lib.hid hk2; clear hr2 hk2)
      have hka : KP wr.heap.size (withB F b) wr w2 := kp_trans2 (KP.of_below (withB F b) (bAlloc (Below.refl wr.heap.size wr) _)) HK2.out (by rw [size_alloc]; omega)
      have HKA := Lib.hid hka
      clear hka
      go_roundw
      case rel => exact ⟨k + 1, by omega, by go_num, Lib.hid (by rw [HLAY.out]; exact HR2.out), Lib.hid (kp_trans2 HK.out HKA.out HK.out.size), Lib.hid (HZ.out.kp HKA.out HZ.out.lt HNB.out)⟩
      case measure => simp [intOf]; omega
    · obtain rfl : k = n := by omega
      have htk : l.take k = l := List.take_of_length_le (by rw [HN.out]; omega)
      have HRL : Hid (RegO wr N b M F (layC m x l) (x + 32 * k)) := Lib.hid (by have := HR.out; rw [htk] at this; exact this)
      have hd1 : decide ((k : Int) < (k : Int)) = false := by simp
      have hd2 : decide (k < k) = false := by simp
      have hsn : layC m x (l ++ [nullC]) = (storeC (layC m x l) ((x + 32 * k : Nat) : Int) nullC).1 := by rw [HSN.out, HN.out]
      have HSN2 := Lib.hid hsn
      have HBY := Lib.hid (fun W1 => Ce.bytes_any (x : Int) ((x + 32 * k : Nat) : Int) 9 W1 (by omega) (by omega) (by omega) (by decide) (by decide))
      have HNU := Lib.hid (fun W1 => Ce.null_x W1)
      have HG := Lib.hid (fun W1 h1 => HGV.out nullC (layC m x l) (x + 32 * k) W1 h1 (by omega) ⟨by decide, by decide, by decide, by decide, by decide, by decide⟩)
      unfold nullC at HG
      simp only [] at HG
      have y1 : wr.cell? ⟨b, 1, none⟩ = some (.int .u64 ((x + 32 * k : Nat) : Int)) := HRL.out.box.cell 1
      obtain ⟨y, hy⟩ : ∃ y, x + 32 * k = y := ⟨_, rfl⟩
      rw [hy] at HBY HG HRL y1
      have HY := Lib.hid hy
      clear hx hl htk hsn hy HR
      go_wp2_with fail
      refine (HBY.out _).mono ?_; rintro e w3 ⟨rfl, hb⟩
      have HR3 := Lib.hid (HRL.out.below hb)
      have HB3 := Lib.hid hb
      clear hb
      go_wp2_with fail
      refine (HNU.out _).mono ?_; rintro e w4 ⟨rfl, hb⟩
      have hb34 : Below w3.heap.size w3 w4 := (bAlloc (Below.refl _ _) _).trans (hb.mono (by rw [size_alloc]; omega))
      have HR4 := Lib.hid (HR3.out.below hb34)
      have hsz3 := HB3.out.size
      have h8 : BoxN w4 w3.heap.size _ := (BoxN.new w3 #[.int .u64 (x : Int), .int .u64 (y : Int), .int .u64 (x : Int), .int .i64 9, .int .i64 (-1), .bool true] 37).below hb (by rw [size_alloc]; omega)
      have H8 := Lib.hid h8
      have HB4 := Lib.hid (HB3.out.trans (hb34.mono HB3.out.size))
      clear hb hb34 h8
      go_wp2_with fail
      refine (HG.out _ HR4.out).mono ?_; rintro e w5 ⟨rfl, hr5, hk5⟩
      have HR5 := Lib.hid hr5
      have hn8 : ¬ withB F b w3.heap.size := HNEW.out _ (Nat.le_trans HK0.out.size (Nat.le_trans HK.out.size hsz3))
      obtain ⟨⟨c0, c1, c2, c3, c4, c5⟩, -⟩ := Ce.boxN6 (H8.out.kp hk5 H8.out.lt hn8)
      have hk1 : KP wr.heap.size (withB F b) wr w5 := kp_trans2 (KP.of_below (withB F b) HB4.out) hk5 HB4.out.size
      have HZ5 := Lib.hid (HZ.out.kp hk1 HZ.out.lt HNB.out)
      obtain ⟨⟨z0, z1, z2, z3, z4, z5⟩, f0, f1, f2, f3, f4, f5⟩ := Ce.boxN6 HZ5.out
      have HK5 := Lib.hid hk1
      clear hr5 hk5 hn8 hk1
      go_wp2_with fail
      have hfin := (((((HZ5.out.set 0 (.int .u64 (x : Int))).set 1 (.int .u64 (y : Int))).set 2 (.int .u64 (x : Int))).set 3 (.int .i64 9)).set 4 (.int .i64 (-1))).set 5 (.bool true)
      obtain ⟨⟨y0, y1, y2, y3, y4, y5⟩, -⟩ := Ce.boxN6 hfin
      refine bodyPost_ret (v := .agg #[.int .u64 (x : Int), .int .u64 (y : Int), .int .u64 (x : Int), .int .i64 9, .int .i64 (-1), .bool true]) (by simp [results, Tryz.results33, go_sem, y0, y1, y2, y3, y4, y5]) rfl ⟨by rw [HY.out], ?_, ?_⟩
      · rw [HSN2.out, HY.out, show x + 32 * (k + 1) = y + 32 by have := HY.out; omega]
        exact HR5.out.off (kp_set6 (KP.refl w5.heap.size (· = R) w5) R (Or.inr rfl) _ _ _ _ _ _) HNB.out
      · have hk9 : KP W.heap.size (withB F b) W w5 := kp_trans2 HK0.out (kp_trans2 HK.out HK5.out HK.out.size) HK0.out.size
        exact kp_set6 hk9 R (Or.inl (Nat.le_of_eq hR)) _ _ _ _ _ _
end Go.Proofs.YtjefkhieihigiaaGreat
