/- CuD -/
import Derived.Test.YtegoddghfjfibaaGreatDoorZ21
namespace Go.Proofs.YtegoddghfjfibaaGreatDoor
set_option linter.unusedVariables false
set_option linter.unusedSimpArgs false
open Go.Joins Go.ChangeShapes Go.WideShapes Go.ChangeAt Go.RowKit Go.Deep

/-- a machine in block A, its memory in blocks F, all from N on -/
structure McS (W : World) (N A M : Nat) (F : Nat → Prop) (s : Mch) : Prop where
  own : Own1 W N F M s.m
  mc : McAt W A M s.pc s.rs
  na : N ≤ A
  fa : ¬ F A
  fpc : FitC s.pc
  frs : ∀ c ∈ s.rs, FitC c
/-- from one world to the next: what is neither the memory's nor the machine's stays -/
structure McMv (W W' : World) (F F' : Nat → Prop) (A : Nat) : Prop where
  sub : ∀ b, F' b → F b ∨ W.heap.size ≤ b
  kp : KP W.heap.size (fun b => F b ∨ b = A) W W'
theorem McMv.of_below {W W' : World} (F : Nat → Prop) (A : Nat) (hb : Below W.heap.size W W') : McMv W W' F F A := ⟨fun b h => Or.inl h, KP.of_below _ hb⟩
theorem McMv.trans {A B C : World} {F G H : Nat → Prop} {R : Nat} (h : McMv A B F G R) (k : McMv B C G H R) (hR : R < A.heap.size) : McMv A C F H R :=
  ⟨fun b hb => by
    rcases k.sub b hb with h1 | h1
    · exact h.sub b h1
    · exact Or.inr (Nat.le_trans h.kp.size h1), h.kp.trans (k.kp.mono h.kp.size (fun b hb hg => by
      rcases hg with hg | hg
      · rcases h.sub b hg with h1 | h1
        · exact Or.inl h1
        · omega
      · exact Or.inr hg))⟩
theorem McS.below {W W' : World} {N A M : Nat} {F : Nat → Prop} {s : Mch} (h : McS W N A M F s) (hb : Below W.heap.size W W') : McS W' N A M F s :=
  ⟨h.own.below hb, h.mc.below hb, h.na, h.fa, h.fpc, h.frs⟩
theorem McS.mem {W W' : World} {N A M : Nat} {F F' : Nat → Prop} {s : Mch} {m' : Mm} (h : McS W N A M F s) (h1 : Own1 W' N F' M m') (hm : Moves W W' F F') : McS W' N A M F' ⟨s.pc, s.rs, m'⟩ ∧ McMv W W' F F' A :=
  ⟨⟨h1, h.mc.kp hm.kp h.mc.lt h.fa, h.na, fun hf => by
    rcases hm.sub A hf with q | q
    · exact h.fa q
    · have := h.mc.lt; omega, h.fpc, h.frs⟩, hm.sub, hm.kp.mono (Nat.le_refl _) (fun b _ q => Or.inl q)⟩
theorem putP_fit {rs : List Cp} (h : ∀ c ∈ rs, FitC c) (n : Nat) {c : Cp} (hc : FitC c) : ∀ d ∈ putP rs n c, FitC d := fun d hd => by
  unfold putP at hd
  split at hd
  · exact h d hd
  · rcases List.mem_or_eq_of_mem_set hd with q | q
    · exact h d q
    · rw [q]; exact hc
theorem McS.mach {W W' : World} {N A M : Nat} {F : Nat → Prop} {s : Mch} {pc : Cp} {rs : List Cp} (h : McS W N A M F s) (h1 : McAt W' A M pc rs) (hk : KP W.heap.size (fun b => b = A) W W') (fp : FitC pc) (fr : ∀ c ∈ rs, FitC c) : McS W' N A M F ⟨pc, rs, s.m⟩ ∧ McMv W W' F F A :=
  ⟨⟨⟨h.own.mem.kp hk (Nat.le_refl _) (fun b hf e => h.fa (e ▸ hf)), h.own.ge, Nat.le_trans h.own.sz hk.size⟩, h1, h.na, h.fa, fp, fr⟩, fun b hb => Or.inl hb, hk.mono (Nat.le_refl _) (fun b _ q => Or.inr q)⟩
/-! Boxes at a call's beginning. -/
theorem boxes2 (W : World) (a b : Array Value) (t u : TypeId) : Below W.heap.size W ((W.alloc (.cells a t)).alloc (.cells b u)) ∧ BoxN ((W.alloc (.cells a t)).alloc (.cells b u)) W.heap.size a ∧ BoxN ((W.alloc (.cells a t)).alloc (.cells b u)) (W.heap.size + 1) b ∧ ((W.alloc (.cells a t)).alloc (.cells b u)).heap.size = W.heap.size + 2 := by
  refine ⟨bAlloc (bAlloc (Below.refl _ _) _) _, (BoxN.new W a t).below (bAlloc (Below.refl _ _) _) (by rw [size_alloc]; omega), ?_, by rw [size_alloc, size_alloc]⟩
  have := BoxN.new (W.alloc (.cells a t)) b u
  rwa [size_alloc] at this
theorem boxes3 (W : World) (a b c : Array Value) (t u v : TypeId) : Below W.heap.size W (((W.alloc (.cells a t)).alloc (.cells b u)).alloc (.cells c v)) ∧ BoxN (((W.alloc (.cells a t)).alloc (.cells b u)).alloc (.cells c v)) W.heap.size a ∧ BoxN (((W.alloc (.cells a t)).alloc (.cells b u)).alloc (.cells c v)) (W.heap.size + 1) b ∧ BoxN (((W.alloc (.cells a t)).alloc (.cells b u)).alloc (.cells c v)) (W.heap.size + 2) c ∧ (((W.alloc (.cells a t)).alloc (.cells b u)).alloc (.cells c v)).heap.size = W.heap.size + 3 := by
  obtain ⟨h1, h2, h3, h4⟩ := boxes2 W a b t u
  have hb : Below ((W.alloc (.cells a t)).alloc (.cells b u)).heap.size ((W.alloc (.cells a t)).alloc (.cells b u)) (((W.alloc (.cells a t)).alloc (.cells b u)).alloc (.cells c v)) := bAlloc (Below.refl _ _) _
  refine ⟨bAlloc h1 _, boxN_below h2 hb, boxN_below h3 hb, ?_, by rw [size_alloc, h4]⟩
  have := BoxN.new ((W.alloc (.cells a t)).alloc (.cells b u)) c v
  rwa [h4] at this
theorem mv_undrew {w w' : World} {F F' : Nat → Prop} (h : Moves w.drew w' F F') : Moves w w' F F' := ⟨h.sub, ⟨h.kp.os, h.kp.tape, h.kp.output, h.kp.size, h.kp.block⟩⟩
theorem sc_end {W w1 W5 : World} {N A M : Nat} {F F' : Nat → Prop} {s : Mch} {m' : Mm} (h : McS W N A M F s) (hb : Below W.heap.size W w1) (ho : Own1 W5 N F' M m') (hm : Moves w1 W5 F F') : McS W5 N A M F' ⟨s.pc, s.rs, m'⟩ ∧ McMv W W5 F F' A := by
  obtain ⟨h1, h2⟩ := (h.below hb).mem ho hm
  exact ⟨h1, (McMv.of_below F A hb).trans h2 h.mc.lt⟩
theorem sc_keep {W w1 W5 : World} {N A M an : Nat} {F F' : Nat → Prop} {s : Mch} {m' : Mm} {cb ct cp cy vb vt va vp vy : Int} {cg vg : Bool} (h : McS W N A M F s) (hb : Below W.heap.size W w1) (hx : BoxN w1 W.heap.size #[.int .u64 cb, .int .u64 ct, .int .u64 (an : Int), .int .i64 cp, .int .i64 cy, .bool cg]) (hy : BoxN w1 (W.heap.size + 1) #[.int .u64 vb, .int .u64 vt, .int .u64 va, .int .i64 vp, .int .i64 vy, .bool vg]) (ho : Own1 W5 N F' M m') (hm : Moves w1 W5 F F') : W5.cell? ⟨A, 198, none⟩ = some (.pointer (some ⟨M, 0, none⟩)) ∧ W5.cell? ⟨W.heap.size, 2, none⟩ = some (.int .u64 (an : Int)) ∧ W5.cell? ⟨W.heap.size + 1, 0, none⟩ = some (.int .u64 vb) ∧ W5.cell? ⟨W.heap.size + 1, 1, none⟩ = some (.int .u64 vt) ∧ W5.cell? ⟨W.heap.size + 1, 2, none⟩ = some (.int .u64 va) ∧ W5.cell? ⟨W.heap.size + 1, 3, none⟩ = some (.int .i64 vp) ∧ W5.cell? ⟨W.heap.size + 1, 4, none⟩ = some (.int .i64 vy) ∧ W5.cell? ⟨W.heap.size + 1, 5, none⟩ = some (.bool vg) := by
  have hf : ∀ q, W.heap.size ≤ q → ¬ F q := fun q hq e => by have := h.own.lt q e; omega
  obtain ⟨⟨k0, k1, k2, k3, k4, k5⟩, -⟩ := boxN6 (hx.kp hm.kp hx.lt (hf _ (Nat.le_refl _)))
  obtain ⟨⟨l0, l1, l2, l3, l4, l5⟩, -⟩ := boxN6 (hy.kp hm.kp hy.lt (hf _ (Nat.le_succ _)))
  exact ⟨(((h.below hb).mem ho hm).1).mc.mem, k2, l0, l1, l2, l3, l4, l5⟩
set_option maxHeartbeats 2000000 in
theorem savecap_bad (W : World) (N A M : Nat) (F : Nat → Prop) (s : Mch) (h : McS W N A M F s) (an : Nat) (cb ct cp cy : Int) (cg : Bool) (vb vt va vp vy : Int) (vg : Bool) (hc : FitC ⟨cb, ct, (an : Int), cp, cy, cg⟩) (hv : FitC ⟨vb, vt, va, vp, vy, vg⟩) (x : Int) (hx : checkP ⟨cb, ct, (an : Int), cp, cy, cg⟩ 32 2 = x) (hz : x ≠ 0) :
    Calls Tryz.prog 152 #[.pointer (some ⟨A, 0, none⟩), .agg #[.int .u64 cb, .int .u64 ct, .int .u64 (an : Int), .int .i64 cp, .int .i64 cy, .bool cg], .agg #[.int .u64 vb, .int .u64 vt, .int .u64 va, .int .i64 vp, .int .i64 vy, .bool vg]] W fun e w' => e = .returned (.int .i64 x) ∧ Below W.heap.size W w' := by
  have hK := ccheck_any ⟨cb, ct, (an : Int), cp, cy, cg⟩ hc 32 2 (by decide)
  rw [hx] at hK
  unfold capC at hK
  simp only [] at hK
  obtain ⟨b1, b2, b3, b4⟩ := boxes2 W #[.int .u64 cb, .int .u64 ct, .int .u64 (an : Int), .int .i64 cp, .int .i64 cy, .bool cg] #[.int .u64 vb, .int .u64 vt, .int .u64 va, .int .i64 vp, .int .i64 vy, .bool vg] 24 24
  obtain ⟨W0, hW0⟩ : ∃ W0, (W.alloc (.cells #[.int .u64 cb, .int .u64 ct, .int .u64 (an : Int), .int .i64 cp, .int .i64 cy, .bool cg] 24)).alloc (.cells #[.int .u64 vb, .int .u64 vt, .int .u64 va, .int .i64 vp, .int .i64 vy, .bool vg] 24) = W0 := ⟨_, rfl⟩
  rw [hW0] at b1 b2 b3 b4
  have HW0 := Lib.hid hW0
  have HK := Lib.hid hK
  have HB := Lib.hid b1
  have HX := Lib.hid b2
  have HY := Lib.hid b3
  have HM := Lib.hid h
  obtain ⟨⟨c0, c1, c2, c3, c4, c5⟩, -⟩ := boxN6 b2
  have q1 : (x == 0) = false := by simpa using hz
  have q2 : (x != 0) = true := by simpa using hz
  clear hz
  clear hW0 hK b1 b2 b3 b4 h hc hv hx
  go_enter Tryz.func152, Tryz.ntmps152
  go_upto_region 1 with fail
  (try rw [HW0.out])
  clear HW0
  go_wp2_with fail
  refine (HK.out W0).mono ?_; rintro e w1 ⟨rfl, hb⟩
  have HB1 := Lib.hid (HB.out.trans (hb.mono HB.out.size))
  have hx1 := boxN_below HX.out hb
  have hy1 := boxN_below HY.out hb
  have HX1 := Lib.hid hx1
  have HY1 := Lib.hid hy1
  obtain ⟨⟨d0, d1, d2, d3, d4, d5⟩, -⟩ := boxN6 hx1
  obtain ⟨⟨e0, e1, e2, e3, e4, e5⟩, -⟩ := boxN6 hy1
  clear hb hx1 hy1 c0 c1 c2 c3 c4 c5 HK
  go_wp2_with fail
  go_ret
  exact ⟨rfl, HB1.out⟩
set_option maxHeartbeats 2000000 in
theorem savecap_perm (W : World) (N A M : Nat) (F : Nat → Prop) (s : Mch) (h : McS W N A M F s) (an : Nat) (cb ct cp cy : Int) (cg : Bool) (vb vt va vp vy : Int) (vg : Bool) (hc : FitC ⟨cb, ct, (an : Int), cp, cy, cg⟩) (hv : FitC ⟨vb, vt, va, vp, vy, vg⟩) (hx : checkP ⟨cb, ct, (an : Int), cp, cy, cg⟩ 32 2 = 0) (hg : vg = true) (hp : bits .and .i64 cp 16 = 0) :
    Calls Tryz.prog 152 #[.pointer (some ⟨A, 0, none⟩), .agg #[.int .u64 cb, .int .u64 ct, .int .u64 (an : Int), .int .i64 cp, .int .i64 cy, .bool cg], .agg #[.int .u64 vb, .int .u64 vt, .int .u64 va, .int .i64 vp, .int .i64 vy, .bool vg]] W fun e w' => e = .returned (.int .i64 22) ∧ Below W.heap.size W w' := by
  subst hg
  have hK := ccheck_any ⟨cb, ct, (an : Int), cp, cy, cg⟩ hc 32 2 (by decide)
  rw [hx] at hK
  unfold capC at hK
  simp only [] at hK
  obtain ⟨b1, b2, b3, b4⟩ := boxes2 W #[.int .u64 cb, .int .u64 ct, .int .u64 (an : Int), .int .i64 cp, .int .i64 cy, .bool cg] #[.int .u64 vb, .int .u64 vt, .int .u64 va, .int .i64 vp, .int .i64 vy, .bool true] 24 24
  obtain ⟨W0, hW0⟩ : ∃ W0, (W.alloc (.cells #[.int .u64 cb, .int .u64 ct, .int .u64 (an : Int), .int .i64 cp, .int .i64 cy, .bool cg] 24)).alloc (.cells #[.int .u64 vb, .int .u64 vt, .int .u64 va, .int .i64 vp, .int .i64 vy, .bool true] 24) = W0 := ⟨_, rfl⟩
  rw [hW0] at b1 b2 b3 b4
  have HW0 := Lib.hid hW0
  have HK := Lib.hid hK
  have HB := Lib.hid b1
  have HX := Lib.hid b2
  have HY := Lib.hid b3
  have HM := Lib.hid h
  obtain ⟨⟨c0, c1, c2, c3, c4, c5⟩, -⟩ := boxN6 b2
  clear hW0 hK b1 b2 b3 b4 h hc hv hx
  go_enter Tryz.func152, Tryz.ntmps152
  go_upto_region 1 with fail
  (try rw [HW0.out])
  clear HW0
  go_wp2_with fail
  refine (HK.out W0).mono ?_; rintro e w1 ⟨rfl, hb⟩
  have HB1 := Lib.hid (HB.out.trans (hb.mono HB.out.size))
  have hx1 := boxN_below HX.out hb
  have hy1 := boxN_below HY.out hb
  have HX1 := Lib.hid hx1
  have HY1 := Lib.hid hy1
  obtain ⟨⟨d0, d1, d2, d3, d4, d5⟩, -⟩ := boxN6 hx1
  obtain ⟨⟨e0, e1, e2, e3, e4, e5⟩, -⟩ := boxN6 hy1
  clear hb hx1 hy1 c0 c1 c2 c3 c4 c5 HK
  go_wp2_with fail
  go_ret
  exact ⟨rfl, HB1.out⟩
set_option maxHeartbeats 2000000 in
theorem savecap_store (W : World) (N A M : Nat) (F : Nat → Prop) (s : Mch) (h : McS W N A M F s) (an : Nat) (cb ct cp cy : Int) (cg : Bool) (vb vt va vp vy : Int) (vg : Bool) (hc : FitC ⟨cb, ct, (an : Int), cp, cy, cg⟩) (hv : FitC ⟨vb, vt, va, vp, vy, vg⟩) (hx : checkP ⟨cb, ct, (an : Int), cp, cy, cg⟩ 32 2 = 0) (hg : vg = false ∨ bits .and .i64 cp 16 ≠ 0) :
    Calls Tryz.prog 152 #[.pointer (some ⟨A, 0, none⟩), .agg #[.int .u64 cb, .int .u64 ct, .int .u64 (an : Int), .int .i64 cp, .int .i64 cy, .bool cg], .agg #[.int .u64 vb, .int .u64 vt, .int .u64 va, .int .i64 vp, .int .i64 vy, .bool vg]] W fun e w' => e = .returned (.int .i64 (storeC s.m an ⟨vb, vt, va, vp, vy, vg⟩).2) ∧ ∃ F', McS w' N A M F' ⟨s.pc, s.rs, (storeC s.m an ⟨vb, vt, va, vp, vy, vg⟩).1⟩ ∧ McMv W w' F F' A := by
  have hal : an < 18446744073709551616 := by have := hc.a1; simp only [] at this; omega
  have HSC := Lib.hid (fun (w : World) (hb : Below W.heap.size W w) => sstoreC_any w N M F s.m (h.own.below hb) an ⟨vb, vt, va, vp, vy, vg⟩ hal hv)
  unfold capC at HSC
  simp only [] at HSC
  clear hal
  have HG := Lib.hid hg
  clear hg
  have hK := ccheck_any ⟨cb, ct, (an : Int), cp, cy, cg⟩ hc 32 2 (by decide)
  rw [hx] at hK
  unfold capC at hK
  simp only [] at hK
  obtain ⟨b1, b2, b3, b4⟩ := boxes2 W #[.int .u64 cb, .int .u64 ct, .int .u64 (an : Int), .int .i64 cp, .int .i64 cy, .bool cg] #[.int .u64 vb, .int .u64 vt, .int .u64 va, .int .i64 vp, .int .i64 vy, .bool vg] 24 24
  obtain ⟨W0, hW0⟩ : ∃ W0, (W.alloc (.cells #[.int .u64 cb, .int .u64 ct, .int .u64 (an : Int), .int .i64 cp, .int .i64 cy, .bool cg] 24)).alloc (.cells #[.int .u64 vb, .int .u64 vt, .int .u64 va, .int .i64 vp, .int .i64 vy, .bool vg] 24) = W0 := ⟨_, rfl⟩
  rw [hW0] at b1 b2 b3 b4
  have HW0 := Lib.hid hW0
  have HK := Lib.hid hK
  have HB := Lib.hid b1
  have HX := Lib.hid b2
  have HY := Lib.hid b3
  have HM := Lib.hid h
  obtain ⟨⟨c0, c1, c2, c3, c4, c5⟩, -⟩ := boxN6 b2
  clear hW0 hK b1 b2 b3 b4 h hc hv hx
  go_enter Tryz.func152, Tryz.ntmps152
  go_upto_region 1 with fail
  (try rw [HW0.out])
  clear HW0
  go_wp2_with fail
  refine (HK.out W0).mono ?_; rintro e w1 ⟨rfl, hb⟩
  have HB1 := Lib.hid (HB.out.trans (hb.mono HB.out.size))
  have hx1 := boxN_below HX.out hb
  have hy1 := boxN_below HY.out hb
  have HX1 := Lib.hid hx1
  have HY1 := Lib.hid hy1
  obtain ⟨⟨d0, d1, d2, d3, d4, d5⟩, -⟩ := boxN6 hx1
  obtain ⟨⟨e0, e1, e2, e3, e4, e5⟩, -⟩ := boxN6 hy1
  clear hb hx1 hy1 c0 c1 c2 c3 c4 c5 HK
  have HSX := Lib.hid (fun (w : World) (hb : Below w1.heap.size w1 w) => (show w.cell? ⟨A, 198, none⟩ = some (.pointer (some ⟨M, 0, none⟩)) ∧ w.cell? ⟨W.heap.size, 2, none⟩ = some (.int .u64 (an : Int)) ∧ w.cell? ⟨W.heap.size + 1, 0, none⟩ = some (.int .u64 vb) ∧ w.cell? ⟨W.heap.size + 1, 1, none⟩ = some (.int .u64 vt) ∧ w.cell? ⟨W.heap.size + 1, 2, none⟩ = some (.int .u64 va) ∧ w.cell? ⟨W.heap.size + 1, 3, none⟩ = some (.int .i64 vp) ∧ w.cell? ⟨W.heap.size + 1, 4, none⟩ = some (.int .i64 vy) ∧ w.cell? ⟨W.heap.size + 1, 5, none⟩ = some (.bool vg) from by
    obtain ⟨⟨k0, k1, k2, k3, k4, k5⟩, -⟩ := boxN6 (boxN_below HX1.out hb)
    obtain ⟨⟨l0, l1, l2, l3, l4, l5⟩, -⟩ := boxN6 (boxN_below HY1.out hb)
    exact ⟨((HM.out.below HB1.out).below hb).mc.mem, k2, l0, l1, l2, l3, l4, l5⟩))
  have HN0 := Lib.hid (Below.refl w1.heap.size w1)
  rcases HG.out with hg | hg
  · subst hg
    go_upto_region 6 with fail
    clear d0 d1 d2 d3 d4 d5 e0 e1 e2 e3 e4 e5
    go_region_held3 (fun W1 => W1.cell? ⟨A, 198, none⟩ = some (.pointer (some ⟨M, 0, none⟩)) ∧ W1.cell? ⟨W.heap.size, 2, none⟩ = some (.int .u64 (an : Int)) ∧ W1.cell? ⟨W.heap.size + 1, 0, none⟩ = some (.int .u64 vb) ∧ W1.cell? ⟨W.heap.size + 1, 1, none⟩ = some (.int .u64 vt) ∧ W1.cell? ⟨W.heap.size + 1, 2, none⟩ = some (.int .u64 va) ∧ W1.cell? ⟨W.heap.size + 1, 3, none⟩ = some (.int .i64 vp) ∧ W1.cell? ⟨W.heap.size + 1, 4, none⟩ = some (.int .i64 vy) ∧ W1.cell? ⟨W.heap.size + 1, 5, none⟩ = some (.bool false))
      (first | with_reducible exact HS5.out | exact HSX.out _ (by first | ((repeat (first | with_reducible exact HN0.out | with_reducible refine Below.drew ?_)); done) | fail))
      (first | (go_at_call 38; refine (HSC.out _ (by first | exact HB1.out | exact Below.drew HB1.out)).mono ?_; rintro e W5 ⟨rfl, F', ho, hm⟩; have HR5 := Lib.hid (sc_end (W := W) (w1 := w1) HM.out HB1.out ho (by first | exact hm | exact mv_undrew hm)); have HS5 := Lib.hid (sc_keep HM.out HB1.out HX1.out HY1.out ho (by first | exact hm | exact mv_undrew hm)); clear ho hm))
    go_wp2_with fail
    go_ret
    exact ⟨rfl, F', HR5.out⟩
  · have q1 : (bits .and .i64 cp 16 == 0) = false := by simpa using hg
    cases vg with
    | true =>
      go_upto_region 6 with fail
      clear d0 d1 d2 d3 d4 d5 e0 e1 e2 e3 e4 e5
      go_region_held3 (fun W1 => W1.cell? ⟨A, 198, none⟩ = some (.pointer (some ⟨M, 0, none⟩)) ∧ W1.cell? ⟨W.heap.size, 2, none⟩ = some (.int .u64 (an : Int)) ∧ W1.cell? ⟨W.heap.size + 1, 0, none⟩ = some (.int .u64 vb) ∧ W1.cell? ⟨W.heap.size + 1, 1, none⟩ = some (.int .u64 vt) ∧ W1.cell? ⟨W.heap.size + 1, 2, none⟩ = some (.int .u64 va) ∧ W1.cell? ⟨W.heap.size + 1, 3, none⟩ = some (.int .i64 vp) ∧ W1.cell? ⟨W.heap.size + 1, 4, none⟩ = some (.int .i64 vy) ∧ W1.cell? ⟨W.heap.size + 1, 5, none⟩ = some (.bool true))
        (first | with_reducible exact HS5.out | exact HSX.out _ (by first | ((repeat (first | with_reducible exact HN0.out | with_reducible refine Below.drew ?_)); done) | fail))
        (first | (go_at_call 38; refine (HSC.out _ (by first | exact HB1.out | exact Below.drew HB1.out)).mono ?_; rintro e W5 ⟨rfl, F', ho, hm⟩; have HR5 := Lib.hid (sc_end (W := W) (w1 := w1) HM.out HB1.out ho (by first | exact hm | exact mv_undrew hm)); have HS5 := Lib.hid (sc_keep HM.out HB1.out HX1.out HY1.out ho (by first | exact hm | exact mv_undrew hm)); clear ho hm))
      go_wp2_with fail
      go_ret
      exact ⟨rfl, F', HR5.out⟩
    | false =>
      go_upto_region 6 with fail
      clear d0 d1 d2 d3 d4 d5 e0 e1 e2 e3 e4 e5
      go_region_held3 (fun W1 => W1.cell? ⟨A, 198, none⟩ = some (.pointer (some ⟨M, 0, none⟩)) ∧ W1.cell? ⟨W.heap.size, 2, none⟩ = some (.int .u64 (an : Int)) ∧ W1.cell? ⟨W.heap.size + 1, 0, none⟩ = some (.int .u64 vb) ∧ W1.cell? ⟨W.heap.size + 1, 1, none⟩ = some (.int .u64 vt) ∧ W1.cell? ⟨W.heap.size + 1, 2, none⟩ = some (.int .u64 va) ∧ W1.cell? ⟨W.heap.size + 1, 3, none⟩ = some (.int .i64 vp) ∧ W1.cell? ⟨W.heap.size + 1, 4, none⟩ = some (.int .i64 vy) ∧ W1.cell? ⟨W.heap.size + 1, 5, none⟩ = some (.bool false))
        (first | with_reducible exact HS5.out | exact HSX.out _ (by first | ((repeat (first | with_reducible exact HN0.out | with_reducible refine Below.drew ?_)); done) | fail))
        (first | (go_at_call 38; refine (HSC.out _ (by first | exact HB1.out | exact Below.drew HB1.out)).mono ?_; rintro e W5 ⟨rfl, F', ho, hm⟩; have HR5 := Lib.hid (sc_end (W := W) (w1 := w1) HM.out HB1.out ho (by first | exact hm | exact mv_undrew hm)); have HS5 := Lib.hid (sc_keep HM.out HB1.out HX1.out HY1.out ho (by first | exact hm | exact mv_undrew hm)); clear ho hm))
      go_wp2_with fail
      go_ret
      exact ⟨rfl, F', HR5.out⟩
theorem savecap_any (W : World) (N A M : Nat) (F : Nat → Prop) (s : Mch) (h : McS W N A M F s) (c v : Cp) (hc : FitC c) (hv : FitC v) :
    Calls Tryz.prog 152 #[.pointer (some ⟨A, 0, none⟩), .agg (capC c).toArray, .agg (capC v).toArray] W fun e w' => e = .returned (.int .i64 (saveCapP s.m c v).2) ∧ ∃ F', McS w' N A M F' ⟨s.pc, s.rs, (saveCapP s.m c v).1⟩ ∧ McMv W w' F F' A := by
  obtain ⟨cb, ct, ca, cp, cy, cg⟩ := c
  obtain ⟨vb, vt, va, vp, vy, vg⟩ := v
  obtain ⟨an, rfl⟩ : ∃ an : Nat, ca = (an : Int) := ⟨ca.toNat, by have := hc.a0; simp only [] at this; omega⟩
  have e0 : ((an : Int)).toNat = an := by omega
  unfold saveCapP
  simp only [e0]
  by_cases hx : checkP ⟨cb, ct, (an : Int), cp, cy, cg⟩ 32 2 = 0
  · rw [if_neg (by simpa using hx)]
    by_cases hg : vg = true ∧ bits .and .i64 cp 16 = 0
    · rw [if_pos (by rw [hg.1, hg.2]; rfl)]
      exact (savecap_perm W N A M F s h an cb ct cp cy cg vb vt va vp vy vg hc hv hx hg.1 hg.2).mono fun e w' q => ⟨q.1, F, h.below q.2, McMv.of_below F A q.2⟩
    · rw [if_neg (by
        intro q
        rw [Bool.and_eq_true, beq_iff_eq] at q
        exact hg q)]
      exact savecap_store W N A M F s h an cb ct cp cy cg vb vt va vp vy vg hc hv hx (by
        cases vg with
        | true => exact Or.inr (fun q => hg ⟨rfl, q⟩)
        | false => exact Or.inl rfl)
  · rw [if_pos (by simpa using hx)]
    exact (savecap_bad W N A M F s h an cb ct cp cy cg vb vt va vp vy vg hc hv _ rfl hx).mono fun e w' q => ⟨q.1, F, h.below q.2, McMv.of_below F A q.2⟩
end Go.Proofs.YtegoddghfjfibaaGreatDoor

