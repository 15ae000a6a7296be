/- The chapter's examples hold. -/
import Derived.Test.YtfneikphgmjfbaaDlL
import Derived.Test.YtfneikphgmjfbaaGrJ
namespace Go.Proofs.Ytfneikphgmjfbaa
set_option linter.unusedVariables false
set_option linter.unusedSimpArgs false
open Go.Joins Go.ChangeShapes Go.WideShapes Go.ChangeAt Go.RowKit Go.Deep

theorem dlib_any (name : List UInt8) (na : Option Addr) (n nc : Nat) (w : World) :
    Calls Try.prog 28 #[.string ⟨name.toArray⟩, .slice na n nc] w fun e w' => e = .returned (.agg #[.string ⟨name.toArray⟩, .slice na n nc, .slice none 0 0, .slice none 0 0, .slice none 0 0, .slice none 0 0, .slice none 0 0]) ∧ Below w.heap.size w w' := by
  go_enter Try.func28, Try.ntmps28
  go_wp2_with fail
  refine bodyPost_ret (v := .agg #[.string ⟨name.toArray⟩, .slice na n nc, .slice none 0 0, .slice none 0 0, .slice none 0 0, .slice none 0 0, .slice none 0 0]) ?_ rfl ⟨rfl, ?_⟩
  · simp [results, Try.results28, go_sem]
  · repeat' (first | (with_reducible refine Below.setCell ?_ ?_ _) | exact bAlloc (Below.refl _ _) _ | exact Nat.le_refl _)
def exD (p q : Option Addr) (x y : Nat) : List Obj := [libO [97] [[98]] p x, libO [98] [] none 0, libO [99] [[98], [100]] q y, libO [100] [] none 0]
theorem exD_a (p q : Option Addr) (x y : Nat) : Beg (exD p q x y) [97] 0 [1, 0] :=
  ⟨[0, 1], [0, 1], rfl, rfl, .go rfl (show Vis _ _ _ _ [some 1] _ _ from .go rfl (show Vis _ _ _ _ [] _ _ from .nil _ _) (.nil _ _)) (.skip rfl (.nil _ _))⟩
theorem exD_c (p q : Option Addr) (x y : Nat) : Beg (exD p q x y) [99] 2 [1, 3, 2] :=
  ⟨[2, 1, 3], [2, 1, 3], rfl, rfl, .go rfl (show Vis _ _ _ _ [some 1, some 3] _ _ from .go rfl (show Vis _ _ _ _ [] _ _ from .nil _ _) (.go rfl (show Vis _ _ _ _ [] _ _ from .nil _ _) (.nil _ _))) (.skip rfl (.skip rfl (.nil _ _)))⟩
theorem exD_b (p q : Option Addr) (x y : Nat) : Beg (exD p q x y) [98] 1 [1] :=
  ⟨[1], [1], rfl, rfl, .go rfl (show Vis _ _ _ _ [] _ _ from .nil _ _) (.nil _ _)⟩
theorem opD_a (p q : Option Addr) (x y : Nat) : Ope (exD p q x y) ⟨[], []⟩ [97] ⟨[1, 0], [0]⟩ [1, 0] 0 := Or.inr ⟨0, [1, 0], exD_a p q x y, rfl, rfl, rfl⟩
theorem opD_c (p q : Option Addr) (x y : Nat) : Ope (exD p q x y) ⟨[1, 0], [0]⟩ [99] ⟨[1, 0, 3, 2], [0, 2]⟩ [3, 2] 0 := Or.inr ⟨2, [1, 3, 2], exD_c p q x y, rfl, rfl, rfl⟩
theorem opD_b (p q : Option Addr) (x y : Nat) : Ope (exD p q x y) ⟨[1, 0], [0]⟩ [98] ⟨[1, 0], [0, 1]⟩ [] 0 := Or.inr ⟨1, [1], exD_b p q x y, rfl, rfl, rfl⟩
theorem goodD (p q : Option Addr) (x y : Nat) : Good (exD p q x y) [97] ⟨[1, 0], [0]⟩ := Good.begun (exD_a p q x y)
theorem begun_at {w w' : World} {l : List Obj} {root : List UInt8} {e : Ending} (h : BegunPost w l root e w') {ld op b : List Nat} {x : Int} (ho : Ope l ⟨[], []⟩ root ⟨ld, op⟩ b x) (n1 n2 : Nat) (h1 : ld.length = n1) (h2 : op.length = n2) :
    ∃ a1 c1 a2 c2, e = .returned (.tuple #[.agg #[.slice a1 n1 c1, .slice a2 n2 c2], .int .i64 x]) ∧ Rd w' a1 n1 (i64s (ordZ ld)) ∧ Rd w' a2 n2 (i64s (ordZ op)) ∧ Below w.heap.size w w' := by
  obtain ⟨a1, c1, a2, c2, s, b', x', rfl, hO, ⟨r1, r2⟩, hb⟩ := h
  obtain ⟨rfl, -, rfl⟩ := hO.det ho
  subst h1; subst h2
  exact ⟨a1, c1, a2, c2, rfl, r1, r2, hb⟩
theorem step_at {w w' : World} {R : St → List Nat → Int → Prop} {e : Ending} (h : StepPost w R e w') {ld op b : List Nat} {x : Int} (hd : ∀ s' b' x', R s' b' x' → s' = ⟨ld, op⟩ ∧ b' = b ∧ x' = x) (n1 n2 n3 : Nat) (h1 : ld.length = n1) (h2 : op.length = n2) (h3 : b.length = n3) :
    ∃ a1 c1 a2 c2 a3 c3, e = .returned (.tuple #[.agg #[.slice a1 n1 c1, .slice a2 n2 c2], .slice a3 n3 c3, .int .i64 x]) ∧ Rd w' a1 n1 (i64s (ordZ ld)) ∧ Rd w' a2 n2 (i64s (ordZ op)) ∧ Rd w' a3 n3 (i64s (ordZ b)) ∧ Below w.heap.size w w' := by
  obtain ⟨a1, c1, a2, c2, a3, c3, s, b', x', rfl, hR, ⟨r1, r2⟩, r3, hb⟩ := h
  obtain ⟨rfl, rfl, rfl⟩ := hd _ _ _ hR
  subst h1; subst h2; subst h3
  exact ⟨a1, c1, a2, c2, a3, c3, rfl, r1, r2, r3, hb⟩
def Cell2 (W : World) (b : Nat) (u v : Value) : Prop := W.cell? ⟨b, 0, none⟩ = some u ∧ W.cell? ⟨b, 1, none⟩ = some v
theorem Cell2.below {W W' : World} {b : Nat} {u v : Value} (h : Cell2 W b u v) (hb : Below W.heap.size W W') : Cell2 W' b u v := ⟨(hb.cell (p := ⟨b, 0, none⟩) (heap_lt_of_cell h.1)).trans h.1, (hb.cell (p := ⟨b, 1, none⟩) (heap_lt_of_cell h.2)).trans h.2⟩
theorem Cell2.new {W W' : World} {u v : Value} {t : TypeId} (hb : Below (W.alloc (.cells #[u, v] t)).heap.size (W.alloc (.cells #[u, v] t)) W') : Cell2 W' W.heap.size u v := ⟨(boxed hb 0).trans rfl, (boxed hb 1).trans rfl⟩
set_option maxRecDepth 100000 in
set_option maxHeartbeats 4000000 in
theorem dawake_any (w : World) : Calls Try.prog 9 #[] w fun e w' => e = .returned (.bool true) ∧ Below w.heap.size w w' := by
  go_enter Try.func9, Try.ntmps9
  go_wp2_with fail
  refine (dlib_any _ _ _ _ _).mono ?_; rintro e w1 ⟨rfl, hb1⟩
  have R1 := Lib.hid ((Rd.lit w #[.string ⟨#[98]⟩] 9 (by decide)).below hb1)
  have B1 := Lib.hid (bTrans (bAlloc (Below.refl _ _) _) hb1)
  clear hb1
  go_wp2_with fail
  refine (dlib_any _ _ _ _ _).mono ?_; rintro e w2 ⟨rfl, hb2⟩
  have R1 := Lib.hid (R1.out.below hb2)
  have B2 := Lib.hid (bTrans B1.out hb2)
  clear hb2
  go_wp2_with fail
  refine (dlib_any _ _ _ _ _).mono ?_; rintro e w3 ⟨rfl, hb3⟩
  have R3 := Lib.hid ((Rd.lit w2 #[.string ⟨#[98]⟩, .string ⟨#[100]⟩] 9 (by decide)).below hb3)
  have R1 := Lib.hid (rd_next R1.out hb3)
  have B3 := Lib.hid (b_next B2.out hb3)
  clear hb3
  go_wp2_with fail
  refine (dlib_any _ _ _ _ _).mono ?_; rintro e w4 ⟨rfl, hb4⟩
  have hA := RdO.lit w4 (exD (some ⟨w.heap.size, 0, none⟩) (some ⟨w2.heap.size, 0, none⟩) 1 2) 54 (by
    intro o ho
    simp only [exD, List.mem_cons, List.not_mem_nil, or_false] at ho
    rcases ho with rfl | rfl | rfl | rfl
    · exact R1.out.below hb4
    · exact Rd.nil _ _
    · exact R3.out.below hb4
    · exact Rd.nil _ _)
  have B4 := Lib.hid (bAlloc (bTrans B3.out hb4) (.cells (objsC (exD (some ⟨w.heap.size, 0, none⟩) (some ⟨w2.heap.size, 0, none⟩) 1 2)).toArray 54))
  have HA := Lib.hid hA
  have hG := goodD (some ⟨w.heap.size, 0, none⟩) (some ⟨w2.heap.size, 0, none⟩) 1 2
  have HG := Lib.hid hG
  have oc := opD_c (some ⟨w.heap.size, 0, none⟩) (some ⟨w2.heap.size, 0, none⟩) 1 2
  have ob := opD_b (some ⟨w.heap.size, 0, none⟩) (some ⟨w2.heap.size, 0, none⟩) 1 2
  have D1 := Lib.hid (fun s' b' x' (h : Ope _ _ _ s' b' x') => Ope.det h oc)
  have D2 := Lib.hid (fun s' b' x' (h : Clo _ _ _ s' b' x') => show s' = ⟨[1, 0], [0]⟩ ∧ b' = [2, 3] ∧ x' = 0 from hG.back oc rfl h)
  have D3 := Lib.hid (fun s' b' x' (h : Clo (exD (some ⟨w.heap.size, 0, none⟩) (some ⟨w2.heap.size, 0, none⟩) 1 2) ⟨[1, 0], [0]⟩ [99] s' b' x') => show s' = ⟨[1, 0], [0]⟩ ∧ b' = [] ∧ x' = 210 from close_one rfl h)
  have D4 := Lib.hid (fun s' b' x' (h : Ope _ _ _ s' b' x') => Ope.det h ob)
  have D5 := Lib.hid (fun s' b' x' (h : Clo _ _ _ s' b' x') => show s' = ⟨[1, 0], [0]⟩ ∧ b' = [] ∧ x' = 0 from hG.back ob rfl h)
  have D6 := Lib.hid (fun s' b' x' (h : Clo (exD (some ⟨w.heap.size, 0, none⟩) (some ⟨w2.heap.size, 0, none⟩) 1 2) ⟨[1, 0], [0]⟩ [97] s' b' x') => show s' = ⟨[1, 0], [0]⟩ ∧ b' = [] ∧ x' = 210 from close_one rfl h)
  have HNM := Lib.hid (named_small (exD (some ⟨w.heap.size, 0, none⟩) (some ⟨w2.heap.size, 0, none⟩) 1 2) rfl)
  have OA := Lib.hid (opD_a (some ⟨w.heap.size, 0, none⟩) (some ⟨w2.heap.size, 0, none⟩) 1 2)
  clear hA hb4 R1 R3 hG oc ob
  go_wp2_with fail
  obtain ⟨W4, hW4⟩ : ∃ W4, W4 = w4.alloc (.cells (objsC (exD (some ⟨w.heap.size, 0, none⟩) (some ⟨w2.heap.size, 0, none⟩) 1 2)).toArray 54) := ⟨_, rfl⟩
  refine (begun_any _ (exD _ _ 1 2) 4 [97] _ HA.out (by show 4 ≤ 100; decide) HNM.out (by decide)).mono ?_; intro e w5 hp
  obtain ⟨a1, c1, a2, c2, rfl, r1, r2, hb5⟩ := begun_at hp OA.out 2 1 rfl rfl
  have HA := Lib.hid (HA.out.below hb5)
  have B5 := Lib.hid (bTrans B4.out hb5)
  have RS := Lib.hid (And.intro r1 r2)
  clear hp r1 r2 hb5 hW4 W4
  go_wp2_with fail
  refine (open_any _ (exD _ _ 1 2) 4 _ _ _ _ ⟨[1, 0], [0]⟩ [99] _ (HA.out.below (bAlloc (Below.refl _ _) _)) (by show 4 ≤ 100; decide) HNM.out ⟨RS.out.1.below (bAlloc (Below.refl _ _) _), RS.out.2.below (bAlloc (Below.refl _ _) _)⟩ (by decide) (by decide) (by decide)).mono ?_; intro e w6 hp
  obtain ⟨p6, q6, p6', q6', x6, y6, rfl, r1, r2, r3, hb6⟩ := step_at hp D1.out 4 2 2 rfl rfl rfl
  have HA := Lib.hid ((HA.out.below (bAlloc (Below.refl _ _) _)).below hb6)
  have B6 := Lib.hid (bTrans (bAlloc B5.out _) hb6)
  have CS := Lib.hid (Cell2.new hb6)
  have RS := Lib.hid (And.intro ((RS.out.1.below (bAlloc (Below.refl _ _) _)).below hb6) ((RS.out.2.below (bAlloc (Below.refl _ _) _)).below hb6))
  have RT := Lib.hid (And.intro r1 r2)
  have RB := Lib.hid r3
  clear hp r1 r2 r3 hb6
  go_wp2_with fail
  refine (close_any _ (exD _ _ 1 2) 4 _ _ _ _ ⟨[1, 0, 3, 2], [0, 2]⟩ [99] _ (HA.out.below (bAlloc (Below.refl _ _) _)) (by show 4 ≤ 100; decide) HNM.out ⟨RT.out.1.below (bAlloc (Below.refl _ _) _), RT.out.2.below (bAlloc (Below.refl _ _) _)⟩ (by decide) (by decide) (by show ∀ k ∈ [0, 2], k < 4; decide)).mono ?_; intro e w7 hp
  obtain ⟨p7, q7, p7', q7', x7, y7, rfl, r1, r2, r3, hb7⟩ := step_at hp D2.out 2 1 2 rfl rfl rfl
  have HA := Lib.hid ((HA.out.below (bAlloc (Below.refl _ _) _)).below hb7)
  have B7 := Lib.hid (bTrans (bAlloc B6.out _) hb7)
  have CS := Lib.hid ((CS.out.below (bAlloc (Below.refl _ _) _)).below hb7)
  have RS := Lib.hid (And.intro ((RS.out.1.below (bAlloc (Below.refl _ _) _)).below hb7) ((RS.out.2.below (bAlloc (Below.refl _ _) _)).below hb7))
  have RB := Lib.hid ((RB.out.below (bAlloc (Below.refl _ _) _)).below hb7)
  have RU := Lib.hid (And.intro r1 r2)
  have RC := Lib.hid r3
  clear hp r1 r2 r3 hb7 RT
  go_wp2_with fail
  refine (close_any _ (exD _ _ 1 2) 4 _ _ _ _ ⟨[1, 0], [0]⟩ [99] _ (HA.out.below (bAlloc (Below.refl _ _) _)) (by show 4 ≤ 100; decide) HNM.out ⟨RU.out.1.below (bAlloc (Below.refl _ _) _), RU.out.2.below (bAlloc (Below.refl _ _) _)⟩ (by decide) (by decide) (by show ∀ k ∈ [0], k < 4; decide)).mono ?_; intro e w8 hp
  obtain ⟨p8, q8, p8', q8', x8, y8, rfl, r1, r2, r3, hb8⟩ := step_at hp D3.out 2 1 0 rfl rfl rfl
  have HA := Lib.hid ((HA.out.below (bAlloc (Below.refl _ _) _)).below hb8)
  have B8 := Lib.hid (bTrans (bAlloc B7.out _) hb8)
  have CS := Lib.hid ((CS.out.below (bAlloc (Below.refl _ _) _)).below hb8)
  have RS := Lib.hid (And.intro ((RS.out.1.below (bAlloc (Below.refl _ _) _)).below hb8) ((RS.out.2.below (bAlloc (Below.refl _ _) _)).below hb8))
  have RB := Lib.hid ((RB.out.below (bAlloc (Below.refl _ _) _)).below hb8)
  have RC := Lib.hid ((RC.out.below (bAlloc (Below.refl _ _) _)).below hb8)
  have cs := (CS.out.below (bAlloc (Below.refl _ _) (.cells #[.slice p8 2 q8, .slice p8' 1 q8'] 28)))
  obtain ⟨cs1, cs2⟩ := CS.out
  have hz8 := heap_lt_of_cell cs1
  simp only [] at hz8
  clear hp r1 r2 r3 hb8 RU cs
  go_wp2_with fail
  refine (open_any _ (exD _ _ 1 2) 4 _ _ _ _ ⟨[1, 0], [0]⟩ [98] _ (HA.out.below (bAlloc (Below.refl _ _) _)) (by show 4 ≤ 100; decide) HNM.out ⟨RS.out.1.below (bAlloc (Below.refl _ _) _), RS.out.2.below (bAlloc (Below.refl _ _) _)⟩ (by decide) (by decide) (by decide)).mono ?_; intro e w9 hp
  obtain ⟨p9, q9, p9', q9', x9, y9, rfl, r1, r2, r3, hb9⟩ := step_at hp D4.out 2 2 0 rfl rfl rfl
  have HA := Lib.hid ((HA.out.below (bAlloc (Below.refl _ _) _)).below hb9)
  have B9 := Lib.hid (bTrans (bAlloc B8.out _) hb9)
  have CS := Lib.hid ((CS.out.below (bAlloc (Below.refl _ _) _)).below hb9)
  have RS := Lib.hid (And.intro ((RS.out.1.below (bAlloc (Below.refl _ _) _)).below hb9) ((RS.out.2.below (bAlloc (Below.refl _ _) _)).below hb9))
  have RB := Lib.hid ((RB.out.below (bAlloc (Below.refl _ _) _)).below hb9)
  have RC := Lib.hid ((RC.out.below (bAlloc (Below.refl _ _) _)).below hb9)
  have RV := Lib.hid (And.intro r1 r2)
  clear hp r1 r2 r3 hb9 cs1 cs2 hz8
  go_wp2_with fail
  refine (close_any _ (exD _ _ 1 2) 4 _ _ _ _ ⟨[1, 0], [0, 1]⟩ [98] _ (HA.out.below (bAlloc (Below.refl _ _) _)) (by show 4 ≤ 100; decide) HNM.out ⟨RV.out.1.below (bAlloc (Below.refl _ _) _), RV.out.2.below (bAlloc (Below.refl _ _) _)⟩ (by decide) (by decide) (by show ∀ k ∈ [0, 1], k < 4; decide)).mono ?_; intro e w10 hp
  obtain ⟨p10, q10, p10', q10', x10, y10, rfl, r1, r2, r3, hb10⟩ := step_at hp D5.out 2 1 0 rfl rfl rfl
  have HA := Lib.hid ((HA.out.below (bAlloc (Below.refl _ _) _)).below hb10)
  have B10 := Lib.hid (bTrans (bAlloc B9.out _) hb10)
  have CS := Lib.hid ((CS.out.below (bAlloc (Below.refl _ _) _)).below hb10)
  have RS := Lib.hid (And.intro ((RS.out.1.below (bAlloc (Below.refl _ _) _)).below hb10) ((RS.out.2.below (bAlloc (Below.refl _ _) _)).below hb10))
  have RB := Lib.hid ((RB.out.below (bAlloc (Below.refl _ _) _)).below hb10)
  have RC := Lib.hid ((RC.out.below (bAlloc (Below.refl _ _) _)).below hb10)
  have RW := Lib.hid (And.intro r1 r2)
  clear hp r1 r2 r3 hb10 RV
  go_wp2_with fail
  refine (close_any _ (exD _ _ 1 2) 4 _ _ _ _ ⟨[1, 0], [0]⟩ [97] _ (HA.out.below (bAlloc (Below.refl _ _) _)) (by show 4 ≤ 100; decide) HNM.out ⟨RW.out.1.below (bAlloc (Below.refl _ _) _), RW.out.2.below (bAlloc (Below.refl _ _) _)⟩ (by decide) (by decide) (by show ∀ k ∈ [0], k < 4; decide)).mono ?_; intro e w11 hp
  obtain ⟨p11, q11, p11', q11', x11, y11, rfl, r1, r2, r3, hb11⟩ := step_at hp D6.out 2 1 0 rfl rfl rfl
  have HA := Lib.hid ((HA.out.below (bAlloc (Below.refl _ _) _)).below hb11)
  have B11 := Lib.hid (bTrans (bAlloc B10.out _) hb11)
  have CS := Lib.hid ((CS.out.below (bAlloc (Below.refl _ _) _)).below hb11)
  have RS := Lib.hid (And.intro ((RS.out.1.below (bAlloc (Below.refl _ _) _)).below hb11) ((RS.out.2.below (bAlloc (Below.refl _ _) _)).below hb11))
  have RB := Lib.hid ((RB.out.below (bAlloc (Below.refl _ _) _)).below hb11)
  have RC := Lib.hid ((RC.out.below (bAlloc (Below.refl _ _) _)).below hb11)
  obtain ⟨cs1, cs2⟩ := CS.out
  have hz11 := heap_lt_of_cell cs1
  simp only [] at hz11
  clear hp r1 r2 r3 hb11 RW HA
  go_wp2_with fail
  have L1 := Lib.hid (Rd.lit1 w11 (.cells #[.slice p11 2 q11, .slice p11' 1 q11'] 28) #[.int .i64 1, .int .i64 0] 3 (by decide))
  refine (numbers_self _ _ 2 _ 2 _ (ordZ [1, 0]) _ (RS.out.1.below (bAlloc (bAlloc (Below.refl _ _) _) _)) L1.out (by decide) (by decide)).mono ?_
  rintro e w12 ⟨rfl, hb12⟩
  have N12 := Lib.hid (bTrans (bAlloc (bAlloc (Below.refl w11.heap.size w11) _) _) hb12)
  have B12 := Lib.hid (bTrans B11.out N12.out)
  have RS := Lib.hid (And.intro (RS.out.1.below N12.out) (RS.out.2.below N12.out))
  have RB := Lib.hid (RB.out.below N12.out)
  have RC := Lib.hid (RC.out.below N12.out)
  have CS := Lib.hid (CS.out.below N12.out)
  clear cs1 cs2 hz11 hb12 L1
  obtain ⟨cs1, cs2⟩ := CS.out
  have hz12 := heap_lt_of_cell cs1
  simp only [] at hz12
  have L2 := Lib.hid (Rd.lit w12 #[.int .i64 0] 3 (by decide))
  go_wp2_with fail
  refine (numbers_self _ _ 1 _ 1 _ (ordZ [0]) _ (RS.out.2.below (bAlloc (Below.refl _ _) _)) L2.out (by decide) (by decide)).mono ?_
  rintro e w13 ⟨rfl, hb13⟩
  have B13 := Lib.hid (b_next B12.out hb13)
  have RB := Lib.hid (rd_next RB.out hb13)
  have RC := Lib.hid (rd_next RC.out hb13)
  have L3 := Lib.hid (Rd.lit w13 #[.int .i64 3, .int .i64 2] 3 (by decide))
  clear hb13 L2 cs1 cs2 hz12
  go_wp2_with fail
  refine (numbers_self _ _ 2 _ 2 _ (ordZ [3, 2]) _ (RB.out.below (bAlloc (Below.refl _ _) _)) L3.out (by decide) (by decide)).mono ?_
  rintro e w14 ⟨rfl, hb14⟩
  have B14 := Lib.hid (b_next B13.out hb14)
  have RC := Lib.hid (rd_next RC.out hb14)
  have L4 := Lib.hid (Rd.lit w14 #[.int .i64 2, .int .i64 3] 3 (by decide))
  clear hb14 L3
  go_wp2_with fail
  refine (numbers_self _ _ 2 _ 2 _ (ordZ [2, 3]) _ (RC.out.below (bAlloc (Below.refl _ _) _)) L4.out (by decide) (by decide)).mono ?_
  rintro e w15 ⟨rfl, hb15⟩
  have B15 := Lib.hid (b_next B14.out hb15)
  clear hb15 L4
  go_wp2_with fail
  go_ret
  exact ⟨rfl, B15.out⟩
end Go.Proofs.Ytfneikphgmjfbaa
