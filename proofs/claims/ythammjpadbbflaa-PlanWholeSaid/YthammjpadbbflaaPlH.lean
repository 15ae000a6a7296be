/- The chapter's examples: contract. -/
import Derived.Test.YthammjpadbbflaaPlD
import Derived.Test.YthammjpadbbflaaPlG
namespace Go.Proofs.Ythammjpadbbflaa
set_option linter.unusedVariables false
set_option linter.unusedSimpArgs false
open Go.Joins Go.ChangeShapes Go.WideShapes Go.ChangeAt Go.RowKit Go.Deep

def exP : List Ob := [⟨[sU [102] [] 2], [(0, 0)]⟩, ⟨[sD [102] []], []⟩]
theorem fewP : FewO exP := few_ex _ (by decide +kernel)
theorem relsP : RelsOk exP := relsOk_of (by decide +kernel)
theorem exP1 : linkF exP [0, 1] [0, 1] [] = ([⟨0, 0, 1, 0⟩], none) := by decide +kernel
theorem exP2 : linkF exP [0] [0] [] = ([], some (⟨0, 0, 0, 0⟩, 140)) := by decide +kernel
theorem linkEx1 (a b g : Option Addr) (c d f : Nat) (W : World) (hl : RdL W a exP) (hb : Rd W b 2 (ordV [0, 1])) (hg : Rd W g 2 (ordV [0, 1])) :
    Calls Try.prog 25 #[.slice a 2 c, .slice b 2 d, .slice g 2 f] W fun e w' => ∃ a' c', e = .returned (.tuple #[.slice a' 1 c', .agg #[.int .i64 0, .int .i64 0, .int .i64 0, .int .i64 0], .int .i64 0]) ∧ RdK w' a' [⟨0, 0, 1, 0⟩] ∧ Below W.heap.size W w' := by
  have h := link_any a b g c d f exP [0, 1] [0, 1] W hl hb hg (sc01 exP rfl) (sc01 exP rfl) fewP relsP (by decide) (by decide)
  rw [exP1] at h
  exact h
theorem linkEx2 (a b g : Option Addr) (c d f : Nat) (W : World) (hl : RdL W a exP) (hb : Rd W b 1 (ordV [0])) (hg : Rd W g 1 (ordV [0])) :
    Calls Try.prog 25 #[.slice a 2 c, .slice b 1 d, .slice g 1 f] W fun e w' => ∃ a' c', e = .returned (.tuple #[.slice a' 0 c', .agg #[.int .i64 0, .int .i64 0, .int .i64 0, .int .i64 0], .int .i64 140]) ∧ Below W.heap.size W w' := by
  have h := link_any a b g c d f exP [0] [0] W hl hb hg (fun k hk => by simp at hk; subst hk; decide) (fun k hk => by simp at hk; subst hk; decide) fewP relsP (by decide) (by decide)
  rw [exP2] at h
  exact h.mono fun e w' ⟨a', c', h1, h2, h3⟩ => ⟨a', c', h1, h3⟩
theorem rdl2r (W : World) (s0 s1 r0 : Option Addr) (t : TypeId) (h0 : RdS W s0 [sU [102] [] 2]) (hr : RdR W r0 [(0, 0)]) (h1 : RdS W s1 [sD [102] []]) :
    RdL (W.alloc (.cells #[.string ⟨#[]⟩, .slice none 0 0, .slice none 0 0, .slice s0 1 1, .slice r0 1 1, .slice none 0 0, .slice none 0 0, .string ⟨#[]⟩, .slice none 0 0, .slice none 0 0, .slice s1 1 1, .slice none 0 0, .slice none 0 0, .slice none 0 0] t)) (some ⟨W.heap.size, 0, none⟩) exP := by
  have hb := BoxN.new W #[.string ⟨#[]⟩, .slice none 0 0, .slice none 0 0, .slice s0 1 1, .slice r0 1 1, .slice none 0 0, .slice none 0 0, .string ⟨#[]⟩, .slice none 0 0, .slice none 0 0, .slice s1 1 1, .slice none 0 0, .slice none 0 0, .slice none 0 0] t
  have B := bAlloc (Below.refl W.heap.size W) (.cells #[.string ⟨#[]⟩, .slice none 0 0, .slice none 0 0, .slice s0 1 1, .slice r0 1 1, .slice none 0 0, .slice none 0 0, .string ⟨#[]⟩, .slice none 0 0, .slice none 0 0, .slice s1 1 1, .slice none 0 0, .slice none 0 0, .slice none 0 0] t)
  refine fun _ => ⟨_, 0, rfl, by simp, fun k hk => ?_⟩
  have hk2 : k = 0 ∨ k = 1 := by simp [exP] at hk; omega
  rcases hk2 with rfl | rfl
  · exact ⟨s0, 1, r0, 1, hb.cell 3, hb.cell 4, h0.below B, Nat.le_refl _, hr.below B⟩
  · exact ⟨s1, 1, none, 0, hb.cell 10, hb.cell 11, h1.below B, Nat.le_refl _, fun h => absurd h (by simp [exP])⟩
theorem rdr1 (W : World) (t : TypeId) : RdR (W.alloc (.cells #[.int .u64 0, .int .i64 0] t)) (some ⟨W.heap.size, 0, none⟩) [(0, 0)] := fun _ =>
  ⟨_, 0, rfl, by simp, fun k hk => by
    have : k = 0 := by simp at hk; omega
    subst this
    exact ⟨(BoxN.new W #[.int .u64 0, .int .i64 0] t).cell 0, (BoxN.new W #[.int .u64 0, .int .i64 0] t).cell 1⟩⟩
theorem rdO1 (W : World) (t : TypeId) : Rd (W.alloc (.cells #[.int .i64 0] t)) (some ⟨W.heap.size, 0, none⟩) 1 (ordV [0]) := Rd.lit W #[.int .i64 0] t (by show 1 ≤ maxLen; decide)
set_option maxHeartbeats 4000000 in
set_option maxRecDepth 100000 in
theorem awake15_any (w : World) : Calls Try.prog 23 #[] w fun e w' => e = .returned (.bool true) ∧ Below w.heap.size w w' := by
  obtain ⟨U, hU⟩ : ∃ U, (((((w).alloc (.cells #[.string ⟨#[102]⟩, .string ⟨#[]⟩, .int .u64 0, .int .u64 0, .int .i64 1, .int .i64 2, .int .i64 1, .bool false] 45)).alloc (.cells #[.int .u64 0, .int .i64 0] 57)).alloc (.cells #[.string ⟨#[]⟩, .slice none 0 0, .slice none 0 0, .slice (some ⟨w.heap.size, 0, none⟩) 1 1, .slice (some ⟨w.heap.size + 1, 0, none⟩) 1 1, .slice none 0 0, .slice none 0 0] 37)).alloc (.cells #[.string ⟨#[102]⟩, .string ⟨#[]⟩, .int .u64 0, .int .u64 0, .int .i64 1, .int .i64 2, .int .i64 1, .bool true] 45)).alloc (.cells #[.string ⟨#[]⟩, .slice none 0 0, .slice none 0 0, .slice (some ⟨w.heap.size + 1 + 1 + 1, 0, none⟩) 1 1, .slice none 0 0, .slice none 0 0, .slice none 0 0] 37) = U := ⟨_, rfl⟩
  have hsz : U.heap.size = w.heap.size + 1 + 1 + 1 + 1 + 1 := by rw [← hU]; simp only [size_alloc]
  have e1 := bAlloc (Below.refl w.heap.size w) (.cells #[.string ⟨#[102]⟩, .string ⟨#[]⟩, .int .u64 0, .int .u64 0, .int .i64 1, .int .i64 2, .int .i64 1, .bool false] 45)
  have F0 := rds1 w (sU [102] [] 2) 45
  have F1 := rdr1 ((w).alloc (.cells #[.string ⟨#[102]⟩, .string ⟨#[]⟩, .int .u64 0, .int .u64 0, .int .i64 1, .int .i64 2, .int .i64 1, .bool false] 45)) 57
  have F2 := BoxN.new (((w).alloc (.cells #[.string ⟨#[102]⟩, .string ⟨#[]⟩, .int .u64 0, .int .u64 0, .int .i64 1, .int .i64 2, .int .i64 1, .bool false] 45)).alloc (.cells #[.int .u64 0, .int .i64 0] 57)) #[.string ⟨#[]⟩, .slice none 0 0, .slice none 0 0, .slice (some ⟨w.heap.size, 0, none⟩) 1 1, .slice (some ⟨w.heap.size + 1, 0, none⟩) 1 1, .slice none 0 0, .slice none 0 0] 37
  have F3 := rds1 ((((w).alloc (.cells #[.string ⟨#[102]⟩, .string ⟨#[]⟩, .int .u64 0, .int .u64 0, .int .i64 1, .int .i64 2, .int .i64 1, .bool false] 45)).alloc (.cells #[.int .u64 0, .int .i64 0] 57)).alloc (.cells #[.string ⟨#[]⟩, .slice none 0 0, .slice none 0 0, .slice (some ⟨w.heap.size, 0, none⟩) 1 1, .slice (some ⟨w.heap.size + 1, 0, none⟩) 1 1, .slice none 0 0, .slice none 0 0] 37)) (sD [102] []) 45
  have F4 := BoxN.new (((((w).alloc (.cells #[.string ⟨#[102]⟩, .string ⟨#[]⟩, .int .u64 0, .int .u64 0, .int .i64 1, .int .i64 2, .int .i64 1, .bool false] 45)).alloc (.cells #[.int .u64 0, .int .i64 0] 57)).alloc (.cells #[.string ⟨#[]⟩, .slice none 0 0, .slice none 0 0, .slice (some ⟨w.heap.size, 0, none⟩) 1 1, .slice (some ⟨w.heap.size + 1, 0, none⟩) 1 1, .slice none 0 0, .slice none 0 0] 37)).alloc (.cells #[.string ⟨#[102]⟩, .string ⟨#[]⟩, .int .u64 0, .int .u64 0, .int .i64 1, .int .i64 2, .int .i64 1, .bool true] 45)) #[.string ⟨#[]⟩, .slice none 0 0, .slice none 0 0, .slice (some ⟨w.heap.size + 1 + 1 + 1, 0, none⟩) 1 1, .slice none 0 0, .slice none 0 0, .slice none 0 0] 37
  simp only [size_alloc] at F1 F2 F3 F4
  have G0 : RdS U (some ⟨w.heap.size, 0, none⟩) [sU [102] [] 2] := by rw [← hU]; exact F0.below (bAlloc (bAlloc (bAlloc (bAlloc (Below.refl _ _) _) _) _) _)
  have G1 : RdR U (some ⟨w.heap.size + 1, 0, none⟩) [(0, 0)] := by rw [← hU]; exact F1.below (bAlloc (bAlloc (bAlloc (Below.refl _ _) _) _) _)
  have G2 : BoxN U (w.heap.size + 1 + 1) #[.string ⟨#[]⟩, .slice none 0 0, .slice none 0 0, .slice (some ⟨w.heap.size, 0, none⟩) 1 1, .slice (some ⟨w.heap.size + 1, 0, none⟩) 1 1, .slice none 0 0, .slice none 0 0] := by rw [← hU]; exact F2.below (bAlloc (bAlloc (Below.refl _ _) _) _) (by simp)
  have G3 : RdS U (some ⟨w.heap.size + 1 + 1 + 1, 0, none⟩) [sD [102] []] := by rw [← hU]; exact F3.below (bAlloc (Below.refl _ _) _)
  have G4 : BoxN U (w.heap.size + 1 + 1 + 1 + 1) #[.string ⟨#[]⟩, .slice none 0 0, .slice none 0 0, .slice (some ⟨w.heap.size + 1 + 1 + 1, 0, none⟩) 1 1, .slice none 0 0, .slice none 0 0, .slice none 0 0] := by rw [← hU]; exact F4
  have BU : Below w.heap.size w U := by rw [← hU]; exact bAlloc (bAlloc (bAlloc (bAlloc (bAlloc (Below.refl _ _) _) _) _) _) _
  have HG0 := Lib.hid G0
  have HG1 := Lib.hid G1
  have HG2 := Lib.hid G2
  have HG3 := Lib.hid G3
  have HG4 := Lib.hid G4
  have HBU := Lib.hid BU
  have HU := Lib.hid hU
  have HL := Lib.hid (rdl2r U (some ⟨w.heap.size, 0, none⟩) (some ⟨w.heap.size + 1 + 1 + 1, 0, none⟩) (some ⟨w.heap.size + 1, 0, none⟩) 37 G0 G1 G3)
  clear e1 F0 F1 F2 F3 F4 G0 G1 G2 G3 G4 BU hU
  go_enter Try.func23, Try.ntmps23
  go_upto_region 3 with fail
  rw [HU.out]
  have c0 := HG2.out
  have c1 := HG4.out
  have a0 := c0.cell 0
  have a1 := c0.cell 1
  have a2 := c0.cell 2
  have a3 := c0.cell 3
  have a4 := c0.cell 4
  have a5 := c0.cell 5
  have a6 := c0.cell 6
  have b0 := c1.cell 0
  have b1 := c1.cell 1
  have b2 := c1.cell 2
  have b3 := c1.cell 3
  have b4 := c1.cell 4
  have b5 := c1.cell 5
  have b6 := c1.cell 6
  clear c0 c1
  go_wp2_with fail
  have H1 := rdO (U.alloc (.cells #[.string ⟨#[]⟩, .slice none 0 0, .slice none 0 0, .slice (some ⟨w.heap.size, 0, none⟩) 1 1, .slice (some ⟨w.heap.size + 1, 0, none⟩) 1 1, .slice none 0 0, .slice none 0 0, .string ⟨#[]⟩, .slice none 0 0, .slice none 0 0, .slice (some ⟨w.heap.size + 1 + 1 + 1, 0, none⟩) 1 1, .slice none 0 0, .slice none 0 0, .slice none 0 0] 37)) 3
  have H2 := rdO ((U.alloc (.cells #[.string ⟨#[]⟩, .slice none 0 0, .slice none 0 0, .slice (some ⟨w.heap.size, 0, none⟩) 1 1, .slice (some ⟨w.heap.size + 1, 0, none⟩) 1 1, .slice none 0 0, .slice none 0 0, .string ⟨#[]⟩, .slice none 0 0, .slice none 0 0, .slice (some ⟨w.heap.size + 1 + 1 + 1, 0, none⟩) 1 1, .slice none 0 0, .slice none 0 0, .slice none 0 0] 37)).alloc (.cells #[.int .i64 0, .int .i64 1] 3)) 3
  simp only [size_alloc, hsz] at H1 H2
  have hl := HL.out
  rw [hsz] at hl
  refine (linkEx1 _ _ _ _ _ _ _ (hl.below (bAlloc (bAlloc (Below.refl _ _) _) _)) (H1.below (bAlloc (Below.refl _ _) _)) H2).mono ?_; rintro e w1 ⟨a1', c1', rfl, hk1, hb1⟩
  have hbu := bTrans (bAlloc (bAlloc (bAlloc (Below.refl U.heap.size U) (.cells #[.string ⟨#[]⟩, .slice none 0 0, .slice none 0 0, .slice (some ⟨w.heap.size, 0, none⟩) 1 1, .slice (some ⟨w.heap.size + 1, 0, none⟩) 1 1, .slice none 0 0, .slice none 0 0, .string ⟨#[]⟩, .slice none 0 0, .slice none 0 0, .slice (some ⟨w.heap.size + 1 + 1 + 1, 0, none⟩) 1 1, .slice none 0 0, .slice none 0 0, .slice none 0 0] 37)) (.cells #[.int .i64 0, .int .i64 1] 3)) (.cells #[.int .i64 0, .int .i64 1] 3)) hb1
  clear a0 a1 a2 a3 a4 a5 a6 b0 b1 b2 b3 b4 b5 b6
  obtain ⟨V, hV⟩ : ∃ V, w1.alloc (.cells #[.int .i64 0, .int .i64 0, .int .i64 0, .int .i64 0] 51) = V := ⟨_, rfl⟩
  have hbv : Below U.heap.size U V := by rw [← hV]; exact bAlloc hbu _
  have hlt : w.heap.size + 5 ≤ U.heap.size := by omega
  have HG0 := Lib.hid (HG0.out.below hbv)
  have HG1 := Lib.hid (HG1.out.below hbv)
  have HG2 := Lib.hid (HG2.out.below hbv (by omega))
  have HG3 := Lib.hid (HG3.out.below hbv)
  have HG4 := Lib.hid (HG4.out.below hbv (by omega))
  have HBV := Lib.hid (bTrans HBU.out hbv)
  have HK1 := Lib.hid (show RdK V a1' [⟨0, 0, 1, 0⟩] by rw [← hV]; exact hk1.below (bAlloc (Below.refl _ _) _))
  have HL := Lib.hid (rdl2r V (some ⟨w.heap.size, 0, none⟩) (some ⟨w.heap.size + 1 + 1 + 1, 0, none⟩) (some ⟨w.heap.size + 1, 0, none⟩) 37 HG0.out HG1.out HG3.out)
  have HV := Lib.hid hV
  clear hbu hbv hb1 hk1 hV H1 H2 hl hsz
  go_upto_region 4 with fail
  rw [HV.out]
  have c0 := HG2.out
  have c1 := HG4.out
  have a0 := c0.cell 0
  have a1 := c0.cell 1
  have a2 := c0.cell 2
  have a3 := c0.cell 3
  have a4 := c0.cell 4
  have a5 := c0.cell 5
  have a6 := c0.cell 6
  have b0 := c1.cell 0
  have b1 := c1.cell 1
  have b2 := c1.cell 2
  have b3 := c1.cell 3
  have b4 := c1.cell 4
  have b5 := c1.cell 5
  have b6 := c1.cell 6
  clear c0 c1
  go_wp2_with fail
  have H1 := rdO1 (V.alloc (.cells #[.string ⟨#[]⟩, .slice none 0 0, .slice none 0 0, .slice (some ⟨w.heap.size, 0, none⟩) 1 1, .slice (some ⟨w.heap.size + 1, 0, none⟩) 1 1, .slice none 0 0, .slice none 0 0, .string ⟨#[]⟩, .slice none 0 0, .slice none 0 0, .slice (some ⟨w.heap.size + 1 + 1 + 1, 0, none⟩) 1 1, .slice none 0 0, .slice none 0 0, .slice none 0 0] 37)) 3
  have H2 := rdO1 ((V.alloc (.cells #[.string ⟨#[]⟩, .slice none 0 0, .slice none 0 0, .slice (some ⟨w.heap.size, 0, none⟩) 1 1, .slice (some ⟨w.heap.size + 1, 0, none⟩) 1 1, .slice none 0 0, .slice none 0 0, .string ⟨#[]⟩, .slice none 0 0, .slice none 0 0, .slice (some ⟨w.heap.size + 1 + 1 + 1, 0, none⟩) 1 1, .slice none 0 0, .slice none 0 0, .slice none 0 0] 37)).alloc (.cells #[.int .i64 0] 3)) 3
  simp only [size_alloc] at H1 H2
  refine (linkEx2 _ _ _ _ _ _ _ (HL.out.below (bAlloc (bAlloc (Below.refl _ _) _) _)) (H1.below (bAlloc (Below.refl _ _) _)) H2).mono ?_; rintro e w2 ⟨a2', c2', rfl, hb2⟩
  have hbv := bTrans (bAlloc (bAlloc (bAlloc (Below.refl V.heap.size V) (.cells #[.string ⟨#[]⟩, .slice none 0 0, .slice none 0 0, .slice (some ⟨w.heap.size, 0, none⟩) 1 1, .slice (some ⟨w.heap.size + 1, 0, none⟩) 1 1, .slice none 0 0, .slice none 0 0, .string ⟨#[]⟩, .slice none 0 0, .slice none 0 0, .slice (some ⟨w.heap.size + 1 + 1 + 1, 0, none⟩) 1 1, .slice none 0 0, .slice none 0 0, .slice none 0 0] 37)) (.cells #[.int .i64 0] 3)) (.cells #[.int .i64 0] 3)) hb2
  clear a0 a1 a2 a3 a4 a5 a6 b0 b1 b2 b3 b4 b5 b6
  have HB2 := Lib.hid (bTrans HBV.out hbv)
  have HK2 := Lib.hid (HK1.out.below hbv)
  clear hbv hb2 H1 H2
  go_wp2_with fail
  refine (users_ex a1' c1' _ (HK2.out.below (bAlloc (Below.refl _ _) _))).mono ?_; rintro e w3 ⟨a3', c3', rfl, hr3, hb3⟩
  have bx := (BoxN.new w2 #[.int .i64 0, .int .i64 0, .int .i64 0, .int .i64 0] 51).below hb3 (by simp)
  have hb3' := bTrans (bAlloc (Below.refl w2.heap.size w2) (.cells #[.int .i64 0, .int .i64 0, .int .i64 0, .int .i64 0] 51)) hb3
  have HR3 := Lib.hid hr3
  have HB3 := Lib.hid (bTrans HB2.out hb3')
  obtain ⟨g1, f1, hg1, -, p0, p1, p2, p3⟩ := (HK2.out.below hb3').at_ (k := 0) (by simp)
  subst hg1
  simp only [List.getElem_cons_zero, Nat.zero_mul, Nat.add_zero] at p0 p1 p2 p3
  have q0 : w3.cell? ⟨w2.heap.size, 0, none⟩ = some (.int .i64 0) := bx.cell 0
  have q1 : w3.cell? ⟨w2.heap.size, 1, none⟩ = some (.int .i64 0) := bx.cell 1
  have q2 : w3.cell? ⟨w2.heap.size, 2, none⟩ = some (.int .i64 0) := bx.cell 2
  have q3 : w3.cell? ⟨w2.heap.size, 3, none⟩ = some (.int .i64 0) := bx.cell 3
  clear bx hb3' hr3 hb3
  go_wp2_with fail
  refine (numbers_any a3' _ 1 c3' 1 1 [0] [0] _ (HR3.out.below (bAlloc (Below.refl _ _) _)) (rd_one w3 0 3) (by decide) (by decide)).mono ?_; rintro e w4 ⟨rfl, hq4⟩
  have HB4 := Lib.hid (bTrans (bAlloc HB3.out (.cells #[.int .i64 0] 3)) (quiet_bel hq4))
  clear hq4
  go_wp2_with fail
  go_ret
  exact ⟨rfl, HB4.out⟩
end Go.Proofs.Ythammjpadbbflaa
