/- LwA -/
import Derived.Test.YtegoddghfjfibaaGreatDoorZ36
import Derived.Test.YtegoddghfjfibaaGreatDoorZ45
namespace Go.Proofs.YtegoddghfjfibaaGreatDoor
set_option linter.unusedVariables false
set_option linter.unusedSimpArgs false
open Go.Joins Go.ChangeShapes Go.WideShapes Go.ChangeAt Go.RowKit Go.Deep

/-- a machine: where it stands, its memory's block, its memory's blocks, what it is -/
structure MX where
  A : Nat
  M : Nat
  F : Nat → Prop
  s : Mch
def Sep (a b : MX) : Prop := ∀ q, (a.F q ∨ q = a.A) → ¬ (b.F q ∨ q = b.A)
/-- machines beside each other, all from N on -/
structure MsAt (N : Nat) (W : World) (l : List MX) : Prop where
  all : ∀ x ∈ l, McS W N x.A x.M x.F x.s
  sep : l.Pairwise Sep
theorem McS.lt {W : World} {N A M : Nat} {F : Nat → Prop} {s : Mch} (h : McS W N A M F s) : ∀ q, (F q ∨ q = A) → q < W.heap.size := fun q hq => by
  rcases hq with hq | hq
  · exact h.own.lt q hq
  · rw [hq]; exact h.mc.lt
theorem McS.kp {W W' : World} {N A M n : Nat} {F S : Nat → Prop} {s : Mch} (h : McS W N A M F s) (hk : KP n S W W') (hn : W.heap.size ≤ n) (hd : ∀ q, (F q ∨ q = A) → ¬ S q) : McS W' N A M F s :=
  ⟨⟨h.own.mem.kp hk hn (fun b hb => hd b (Or.inl hb)), h.own.ge, Nat.le_trans h.own.sz hk.size⟩, h.mc.kp hk (Nat.lt_of_lt_of_le h.mc.lt hn) (hd A (Or.inr rfl)), h.na, h.fa, h.fpc, h.frs⟩
theorem McS.weak {W : World} {N N' A M : Nat} {F : Nat → Prop} {s : Mch} (h : McS W N A M F s) (hN : N' ≤ N) : McS W N' A M F s :=
  ⟨⟨h.own.mem, fun q hq => Nat.le_trans hN (h.own.ge q hq), Nat.le_trans hN h.own.sz⟩, h.mc, Nat.le_trans hN h.na, h.fa, h.fpc, h.frs⟩
theorem MsAt.below {N : Nat} {W W' : World} {l : List MX} (h : MsAt N W l) (hb : Below W.heap.size W W') : MsAt N W' l := ⟨fun x hx => (h.all x hx).below hb, h.sep⟩
theorem MsAt.add {N : Nat} {W W' : World} {l : List MX} (h : MsAt N W l) (hN : N ≤ W.heap.size) (hb : Below W.heap.size W W') {y : MX} (hy : McS W' W.heap.size y.A y.M y.F y.s) : MsAt N W' (l ++ [y]) := by
  refine ⟨fun x hx => ?_, ?_⟩
  · rcases List.mem_append.1 hx with hx | hx
    · exact (h.all x hx).below hb
    · rw [List.mem_singleton.1 hx]; exact hy.weak hN
  · rw [List.pairwise_append]
    refine ⟨h.sep, List.pairwise_singleton _ _, fun a ha b hb q hq hq2 => ?_⟩
    rw [List.mem_singleton.1 hb] at hq2
    have h1 := (h.all a ha).lt q hq
    rcases hq2 with h2 | h2
    · have := hy.own.ge q h2; omega
    · have := hy.na; omega
theorem MsAt.move {N : Nat} {W W' : World} {l1 l2 : List MX} {x : MX} {F' : Nat → Prop} {s' : Mch} (h : MsAt N W (l1 ++ x :: l2)) (h1 : McS W' N x.A x.M F' s') (hm : McMv W W' x.F F' x.A) : MsAt N W' (l1 ++ ⟨x.A, x.M, F', s'⟩ :: l2) := by
  have hs := h.sep
  rw [List.pairwise_append, List.pairwise_cons] at hs
  obtain ⟨s1, ⟨s2, s3⟩, s4⟩ := hs
  have hx := h.all x (by simp)
  have key : ∀ y ∈ l1 ++ x :: l2, Sep x y → McS W' N y.A y.M y.F y.s ∧ Sep ⟨x.A, x.M, F', s'⟩ y := fun y hy hsp => by
    have hyy := h.all y hy
    refine ⟨hyy.kp hm.kp (Nat.le_refl _) (fun q hq hq2 => hsp q hq2 hq), fun q hq hq2 => ?_⟩
    rcases hq with hq | hq
    · rcases hm.sub q hq with hq | hq
      · exact hsp q (Or.inl hq) hq2
      · have := hyy.lt q hq2; omega
    · exact hsp q (Or.inr hq) hq2
  have sym : ∀ {a b : MX}, Sep a b → Sep b a := fun hab q hq hq2 => hab q hq2 hq
  refine ⟨fun y hy => ?_, ?_⟩
  · rcases List.mem_append.1 hy with hy | hy
    · exact (key y (List.mem_append_left _ hy) (sym (s4 y hy x (by simp)))).1
    · rcases List.mem_cons.1 hy with rfl | hy
      · exact h1
      · exact (key y (by simp [hy]) (s2 y hy)).1
  · rw [List.pairwise_append, List.pairwise_cons]
    refine ⟨s1, ⟨fun y hy => (key y (by simp [hy]) (s2 y hy)).2, s3⟩, fun a ha b hb => ?_⟩
    rcases List.mem_cons.1 hb with rfl | hb
    · exact sym (key a (List.mem_append_left _ ha) (sym (s4 a ha x (by simp)))).2
    · exact s4 a ha b (by simp [hb])
theorem McMv.belowN {W W' : World} {N A M : Nat} {F F' : Nat → Prop} {s : Mch} (hm : McMv W W' F F' A) (h : McS W N A M F s) : Below N W W' :=
  hm.kp.to_below (m := N) h.own.sz (fun b hb hg => by
    rcases hg with hg | hg
    · have := h.own.ge b hg; omega
    · have := h.na; omega)
theorem ms_step (N : Nat) (W : World) (l1 : List MX) (x : MX) (l2 : List MX) (h : MsAt N W (l1 ++ x :: l2)) (nt : Is.NT W) (g1 : 1 < N) (g2 : 0 < N) :
    Calls Tryz.prog 11 #[.pointer (some ⟨x.A, 0, none⟩)] W fun e w' => e = .returned (.int .i64 (stepP x.s).2) ∧ ∃ F', MsAt N w' (l1 ++ ⟨x.A, x.M, F', (stepP x.s).1⟩ :: l2) ∧ Is.NT w' ∧ Below N W w' := by
  have hx := h.all x (by simp)
  refine (step_any W N x.A x.M x.F x.s hx nt).mono ?_
  rintro e w' ⟨rfl, F', q1, q2⟩
  exact ⟨rfl, F', h.move q1 q2, NT_mv nt hx q2 g1 g2, q2.belowN hx⟩
def bothM (pc : Cp) (xs : List InsZ) (l : List Pt) : Mch := ⟨pc, (bothF xs l).2, (bothF xs l).1⟩
theorem ms_both (N : Nat) (W : World) (L : List MX) (h : MsAt N W L) (hN : N ≤ W.heap.size) (pc : Cp) (xa : Option Addr) (xcap : Nat) (xs : List InsZ) (pa : Option Addr) (pcap : Nat) (l : List Pt) (hx : RdIn W xa xs) (hmx : xs.length < 9223372036854775808) (hp : RdPt W pa l) (hm : l.length < 9223372036854775808) (hfp : FitC pc) (hfl : ∀ p ∈ l, FitC p.c) (hok : okB pc xs l = true) :
    Calls Tryz.prog 10 #[.agg (capC pc).toArray, .slice xa xs.length xcap, .slice pa l.length pcap] W fun e W' => Below W.heap.size W W' ∧ ∃ A B M F, e = .returned (.tuple #[.pointer (some ⟨A, 0, none⟩), .pointer (some ⟨B, 0, none⟩)]) ∧ MsAt N W' (L ++ [⟨A, M, F, bothM pc xs l⟩]) := by
  refine (both7_any W pc xa xcap xs pa pcap l hx hmx hp hm hfp hfl).mono ?_
  rintro e W' ⟨hb, ⟨h0, -⟩ | ⟨-, A, B, M, R, F, G, mm, rs, he, hB, hF⟩⟩
  · rw [hok] at h0; cases h0
  · have e1 : bothM pc xs l = ⟨pc, rs, mm⟩ := by unfold bothM; rw [← hF]
    exact ⟨hb, A, B, M, F, he, h.add hN hb (y := ⟨A, M, F, bothM pc xs l⟩) (by rw [e1]; exact ⟨hB.own, hB.ma, hB.na, hB.fa, hfp, hB.fit⟩)⟩
/-! The examples. -/
def runP : Cp := ⟨0, 2048, 0, 13, -1, true⟩
theorem fit_run : FitC runP := ⟨by decide, by decide, by decide, by decide, by decide, by decide⟩
set_option maxHeartbeats 1000000 in
theorem run_any (w : World) : Calls Tryz.prog 26 #[] w fun e w' => e = .returned (.agg #[.int .u64 0, .int .u64 2048, .int .u64 0, .int .i64 13, .int .i64 (-1), .bool true]) ∧ Below w.heap.size w w' := by
  go_enter Tryz.func26, Tryz.ntmps26
  go_wp2_with fail
  refine bodyPost_ret (v := .agg #[.int .u64 0, .int .u64 2048, .int .u64 0, .int .i64 13, .int .i64 (-1), .bool true]) ?_ rfl ⟨rfl, ?_⟩
  · simp [results, Tryz.results26, go_sem]
  · repeat' (first | (with_reducible refine Below.setCell ?_ ?_ _) | exact bAlloc (Below.refl _ _) _ | exact Nat.le_refl _)
set_option maxHeartbeats 1000000 in
theorem inst_any (s : List UInt8) (r : Nat) (hr : Is.FindP s r) (a b c n : Int) (w : World) : Calls Tryz.prog 27 #[.string ⟨s.toArray⟩, .int .i64 a, .int .i64 b, .int .i64 c, .int .i64 n] w fun e w' => e = .returned (.agg #[.int .i64 (r : Int), .int .i64 a, .int .i64 b, .int .i64 c, .int .i64 n]) ∧ Below w.heap.size w w' := by
  have HR := Lib.hid (fun w => Is.rfind_any s r hr w)
  clear hr
  go_enter Tryz.func27, Tryz.ntmps27
  have hb0 := bAlloc (Below.refl w.heap.size w) (.cells #[.int .i64 0, .int .i64 0, .int .i64 0, .int .i64 0, .int .i64 0] 61)
  have hx0 := BoxN.new w #[.int .i64 0, .int .i64 0, .int .i64 0, .int .i64 0, .int .i64 0] 61
  have HB0 := Lib.hid hb0
  have HX0 := Lib.hid hx0
  clear hb0 hx0
  go_wp2_with fail
  refine (HR.out _).mono ?_; rintro e w1 ⟨rfl, hb⟩
  have HB1 := Lib.hid (HB0.out.trans (hb.mono HB0.out.size))
  obtain ⟨⟨i0, i1, i2, i3, i4⟩, j0, j1, j2, j3, j4⟩ := box5 (boxN_below HX0.out hb)
  clear hb
  go_wp2_with fail
  exact bodyPost_ret (v := .agg #[.int .i64 (r : Int), .int .i64 a, .int .i64 b, .int .i64 c, .int .i64 n]) (by simp [results, Tryz.results27, go_sem, *]) rfl ⟨rfl, below_set5 HB1.out (Nat.le_refl _)⟩
theorem fAddi : Is.FindP [97, 100, 100, 105] 29 := Is.findP_of _ _ (by decide +kernel)
theorem fAdd : Is.FindP [97, 100, 100] 1 := Is.findP_of _ _ (by decide +kernel)
theorem fLd : Is.FindP [108, 100] 45 := Is.findP_of _ _ (by decide +kernel)
theorem fAuipcc : Is.FindP [97, 117, 105, 112, 99, 99] 62 := Is.findP_of _ _ (by decide +kernel)
theorem fBounds : Is.FindP [99, 115, 101, 116, 98, 111, 117, 110, 100, 115] 67 := Is.findP_of _ _ (by decide +kernel)
theorem fLb : Is.FindP [108, 98] 42 := Is.findP_of _ _ (by decide +kernel)
theorem fEcall : Is.FindP [101, 99, 97, 108, 108] 65 := Is.findP_of _ _ (by decide +kernel)
theorem fCmove : Is.FindP [99, 109, 111, 118, 101] 80 := Is.findP_of _ _ (by decide +kernel)
def xsA : List InsZ := [⟨29, 1, 0, 0, 5⟩, ⟨1, 2, 1, 1, 0⟩]
def xsB : List InsZ := [⟨45, 1, 0, 0, 0⟩]
def xsC : List InsZ := [⟨62, 1, 0, 0, 0⟩, ⟨67, 2, 1, 0, 0⟩, ⟨42, 3, 2, 0, 0⟩]
def xsD : List InsZ := [⟨65, 0, 0, 0, 0⟩]
def sA0 : Mch := bothM runP xsA []
def sB0 : Mch := bothM runP xsB []
def sC0 : Mch := bothM runP xsC []
def sD0 : Mch := bothM runP xsD []
theorem exA1 : (stepP sA0).2 = 0 := by decide +kernel
theorem exA2 : (stepP (stepP sA0).1).2 = 0 := by decide +kernel
theorem exA3 : ((stepP (stepP sA0).1).1.rs.getD 2 nullC).a = 10 := by decide +kernel
theorem exB1 : (stepP sB0).2 = 20 := by decide +kernel
theorem exC1 : (stepP sC0).2 = 0 := by decide +kernel
theorem exC2 : (stepP (stepP sC0).1).2 = 0 := by decide +kernel
theorem exC3 : (stepP (stepP (stepP sC0).1).1).2 = 23 := by decide +kernel
theorem exD1 : (stepP sD0).2 = 60 := by decide +kernel
theorem exD2 : (stepP sD0).1.pc.a = 0 := by decide +kernel
theorem okA : okB runP xsA [] = true := by decide +kernel
theorem okB_ : okB runP xsB [] = true := by decide +kernel
theorem okC : okB runP xsC [] = true := by decide +kernel
theorem okD : okB runP xsD [] = true := by decide +kernel
set_option maxRecDepth 100000 in
set_option maxHeartbeats 16000000 in
theorem awake_any (W : World) (nt : Is.NT W) : Calls Tryz.prog 9 #[] W fun e w' => e = .returned (.bool true) ∧ Below W.heap.size W w' := by
  have HG : Hid (1 < W.heap.size ∧ 0 < W.heap.size) := Lib.hid ⟨nt.1.1, nt.2.1⟩
  obtain ⟨N, hN⟩ : ∃ N, W.heap.size = N := ⟨_, rfl⟩
  rw [hN] at HG ⊢
  have HN := Lib.hid (show N ≤ W.heap.size by omega)
  have HNT := Lib.hid nt
  have HB : Hid (Below N W W) := Lib.hid (Below.refl _ _)
  have HM : Hid (MsAt N W []) := Lib.hid ⟨fun x hx => (by cases hx), List.Pairwise.nil⟩
  clear nt hN
  go_enter Tryz.func9, Tryz.ntmps9
  go_wp2_with fail
  refine (run_any _).mono ?_; rintro e w1 ⟨rfl, hb⟩
  have HB' := Lib.hid (HB.out.trans (hb.mono HN.out))
  have HM' := Lib.hid (HM.out.below hb)
  have HNT' := Lib.hid (HNT.out.on hb)
  have HN' := Lib.hid (Nat.le_trans HN.out hb.size)
  clear hb HB HM HNT HN
  have HB := HB'
  have HM := HM'
  have HNT := HNT'
  have HN := HN'
  clear HB' HM' HNT' HN'
  go_wp2_with fail
  refine (inst_any _ 29 fAddi (1) (0) (0) (5) _).mono ?_; rintro e w2 ⟨rfl, hb⟩
  have HB' := Lib.hid (HB.out.trans (hb.mono HN.out))
  have HM' := Lib.hid (HM.out.below hb)
  have HNT' := Lib.hid (HNT.out.on hb)
  have HN' := Lib.hid (Nat.le_trans HN.out hb.size)
  clear hb HB HM HNT HN
  have HB := HB'
  have HM := HM'
  have HNT := HNT'
  have HN := HN'
  clear HB' HM' HNT' HN'
  go_wp2_with fail
  refine (inst_any _ 1 fAdd (2) (1) (1) (0) _).mono ?_; rintro e w3 ⟨rfl, hb⟩
  have HB' := Lib.hid (HB.out.trans (hb.mono HN.out))
  have HM' := Lib.hid (HM.out.below hb)
  have HNT' := Lib.hid (HNT.out.on hb)
  have HN' := Lib.hid (Nat.le_trans HN.out hb.size)
  clear hb HB HM HNT HN
  have HB := HB'
  have HM := HM'
  have HNT := HNT'
  have HN := HN'
  clear HB' HM' HNT' HN'
  have CB := Lib.hid (ms_both N (w3.alloc (.cells #[.int .i64 29, .int .i64 1, .int .i64 0, .int .i64 0, .int .i64 5, .int .i64 1, .int .i64 2, .int .i64 1, .int .i64 1, .int .i64 0] 61)) [] (HM.out.below (bAlloc (Below.refl _ _) _)) (by rw [size_alloc]; have := HN.out; omega) runP (some ⟨w3.heap.size, 0, none⟩) 2 xsA none 0 [] (Rd.lit w3 #[.int .i64 29, .int .i64 1, .int .i64 0, .int .i64 0, .int .i64 5, .int .i64 1, .int .i64 2, .int .i64 1, .int .i64 1, .int .i64 0] 61 (by decide)) (by decide) (Rd.nil _ _) (by decide) fit_run (fun p hp => by cases hp) okA)
  rw [show bothM runP xsA [] = sA0 from rfl] at CB
  rw [show (capC runP).toArray = #[.int .u64 0, .int .u64 2048, .int .u64 0, .int .i64 13, .int .i64 (-1), .bool true] from rfl, show xsA.length = 2 from rfl, show ([] : List Pt).length = 0 from rfl] at CB
  have HA' : Hid (Below N W (w3.alloc (.cells #[.int .i64 29, .int .i64 1, .int .i64 0, .int .i64 0, .int .i64 5, .int .i64 1, .int .i64 2, .int .i64 1, .int .i64 1, .int .i64 0] 61)) ∧ Is.NT (w3.alloc (.cells #[.int .i64 29, .int .i64 1, .int .i64 0, .int .i64 0, .int .i64 5, .int .i64 1, .int .i64 2, .int .i64 1, .int .i64 1, .int .i64 0] 61)) ∧ N ≤ (w3.alloc (.cells #[.int .i64 29, .int .i64 1, .int .i64 0, .int .i64 0, .int .i64 5, .int .i64 1, .int .i64 2, .int .i64 1, .int .i64 1, .int .i64 0] 61)).heap.size) := Lib.hid ⟨HB.out.trans ((bAlloc (Below.refl _ _) _).mono HN.out), HNT.out.on (bAlloc (Below.refl _ _) _), by rw [size_alloc]; have := HN.out; omega⟩
  clear HB HM HNT HN
  go_wp2_with fail
  refine CB.out.mono ?_; rintro e w5 ⟨hb, AA, Bx, MA, FA, rfl, hm⟩
  have HB := Lib.hid (HA'.out.1.trans (hb.mono HA'.out.2.2))
  have HM := Lib.hid hm
  have HNT := Lib.hid (HA'.out.2.1.on hb)
  have HN := Lib.hid (Nat.le_trans HA'.out.2.2 hb.size)
  clear hb hm HA' CB
  try simp only [List.nil_append, List.cons_append] at HM
  go_wp2_with fail
  refine (run_any _).mono ?_; rintro e w6 ⟨rfl, hb⟩
  have HB' := Lib.hid (HB.out.trans (hb.mono HN.out))
  have HM' := Lib.hid (HM.out.below hb)
  have HNT' := Lib.hid (HNT.out.on hb)
  have HN' := Lib.hid (Nat.le_trans HN.out hb.size)
  clear hb HB HM HNT HN
  have HB := HB'
  have HM := HM'
  have HNT := HNT'
  have HN := HN'
  clear HB' HM' HNT' HN'
  go_wp2_with fail
  refine (inst_any _ 45 fLd (1) (0) (0) (0) _).mono ?_; rintro e w7 ⟨rfl, hb⟩
  have HB' := Lib.hid (HB.out.trans (hb.mono HN.out))
  have HM' := Lib.hid (HM.out.below hb)
  have HNT' := Lib.hid (HNT.out.on hb)
  have HN' := Lib.hid (Nat.le_trans HN.out hb.size)
  clear hb HB HM HNT HN
  have HB := HB'
  have HM := HM'
  have HNT := HNT'
  have HN := HN'
  clear HB' HM' HNT' HN'
  have CB := Lib.hid (ms_both N (w7.alloc (.cells #[.int .i64 45, .int .i64 1, .int .i64 0, .int .i64 0, .int .i64 0] 61)) [⟨AA, MA, FA, sA0⟩] (HM.out.below (bAlloc (Below.refl _ _) _)) (by rw [size_alloc]; have := HN.out; omega) runP (some ⟨w7.heap.size, 0, none⟩) 1 xsB none 0 [] (Rd.lit w7 #[.int .i64 45, .int .i64 1, .int .i64 0, .int .i64 0, .int .i64 0] 61 (by decide)) (by decide) (Rd.nil _ _) (by decide) fit_run (fun p hp => by cases hp) okB_)
  rw [show bothM runP xsB [] = sB0 from rfl] at CB
  rw [show (capC runP).toArray = #[.int .u64 0, .int .u64 2048, .int .u64 0, .int .i64 13, .int .i64 (-1), .bool true] from rfl, show xsB.length = 1 from rfl, show ([] : List Pt).length = 0 from rfl] at CB
  have HA' : Hid (Below N W (w7.alloc (.cells #[.int .i64 45, .int .i64 1, .int .i64 0, .int .i64 0, .int .i64 0] 61)) ∧ Is.NT (w7.alloc (.cells #[.int .i64 45, .int .i64 1, .int .i64 0, .int .i64 0, .int .i64 0] 61)) ∧ N ≤ (w7.alloc (.cells #[.int .i64 45, .int .i64 1, .int .i64 0, .int .i64 0, .int .i64 0] 61)).heap.size) := Lib.hid ⟨HB.out.trans ((bAlloc (Below.refl _ _) _).mono HN.out), HNT.out.on (bAlloc (Below.refl _ _) _), by rw [size_alloc]; have := HN.out; omega⟩
  clear HB HM HNT HN
  go_wp2_with fail
  refine CB.out.mono ?_; rintro e w9 ⟨hb, AB, Bx, MB, FB, rfl, hm⟩
  have HB := Lib.hid (HA'.out.1.trans (hb.mono HA'.out.2.2))
  have HM := Lib.hid hm
  have HNT := Lib.hid (HA'.out.2.1.on hb)
  have HN := Lib.hid (Nat.le_trans HA'.out.2.2 hb.size)
  clear hb hm HA' CB
  try simp only [List.nil_append, List.cons_append] at HM
  go_wp2_with fail
  refine (run_any _).mono ?_; rintro e w10 ⟨rfl, hb⟩
  have HB' := Lib.hid (HB.out.trans (hb.mono HN.out))
  have HM' := Lib.hid (HM.out.below hb)
  have HNT' := Lib.hid (HNT.out.on hb)
  have HN' := Lib.hid (Nat.le_trans HN.out hb.size)
  clear hb HB HM HNT HN
  have HB := HB'
  have HM := HM'
  have HNT := HNT'
  have HN := HN'
  clear HB' HM' HNT' HN'
  go_wp2_with fail
  refine (inst_any _ 62 fAuipcc (1) (0) (0) (0) _).mono ?_; rintro e w11 ⟨rfl, hb⟩
  have HB' := Lib.hid (HB.out.trans (hb.mono HN.out))
  have HM' := Lib.hid (HM.out.below hb)
  have HNT' := Lib.hid (HNT.out.on hb)
  have HN' := Lib.hid (Nat.le_trans HN.out hb.size)
  clear hb HB HM HNT HN
  have HB := HB'
  have HM := HM'
  have HNT := HNT'
  have HN := HN'
  clear HB' HM' HNT' HN'
  go_wp2_with fail
  refine (inst_any _ 67 fBounds (2) (1) (0) (0) _).mono ?_; rintro e w12 ⟨rfl, hb⟩
  have HB' := Lib.hid (HB.out.trans (hb.mono HN.out))
  have HM' := Lib.hid (HM.out.below hb)
  have HNT' := Lib.hid (HNT.out.on hb)
  have HN' := Lib.hid (Nat.le_trans HN.out hb.size)
  clear hb HB HM HNT HN
  have HB := HB'
  have HM := HM'
  have HNT := HNT'
  have HN := HN'
  clear HB' HM' HNT' HN'
  go_wp2_with fail
  refine (inst_any _ 42 fLb (3) (2) (0) (0) _).mono ?_; rintro e w13 ⟨rfl, hb⟩
  have HB' := Lib.hid (HB.out.trans (hb.mono HN.out))
  have HM' := Lib.hid (HM.out.below hb)
  have HNT' := Lib.hid (HNT.out.on hb)
  have HN' := Lib.hid (Nat.le_trans HN.out hb.size)
  clear hb HB HM HNT HN
  have HB := HB'
  have HM := HM'
  have HNT := HNT'
  have HN := HN'
  clear HB' HM' HNT' HN'
  have CB := Lib.hid (ms_both N (w13.alloc (.cells #[.int .i64 62, .int .i64 1, .int .i64 0, .int .i64 0, .int .i64 0, .int .i64 67, .int .i64 2, .int .i64 1, .int .i64 0, .int .i64 0, .int .i64 42, .int .i64 3, .int .i64 2, .int .i64 0, .int .i64 0] 61)) [⟨AA, MA, FA, sA0⟩, ⟨AB, MB, FB, sB0⟩] (HM.out.below (bAlloc (Below.refl _ _) _)) (by rw [size_alloc]; have := HN.out; omega) runP (some ⟨w13.heap.size, 0, none⟩) 3 xsC none 0 [] (Rd.lit w13 #[.int .i64 62, .int .i64 1, .int .i64 0, .int .i64 0, .int .i64 0, .int .i64 67, .int .i64 2, .int .i64 1, .int .i64 0, .int .i64 0, .int .i64 42, .int .i64 3, .int .i64 2, .int .i64 0, .int .i64 0] 61 (by decide)) (by decide) (Rd.nil _ _) (by decide) fit_run (fun p hp => by cases hp) okC)
  rw [show bothM runP xsC [] = sC0 from rfl] at CB
  rw [show (capC runP).toArray = #[.int .u64 0, .int .u64 2048, .int .u64 0, .int .i64 13, .int .i64 (-1), .bool true] from rfl, show xsC.length = 3 from rfl, show ([] : List Pt).length = 0 from rfl] at CB
  have HA' : Hid (Below N W (w13.alloc (.cells #[.int .i64 62, .int .i64 1, .int .i64 0, .int .i64 0, .int .i64 0, .int .i64 67, .int .i64 2, .int .i64 1, .int .i64 0, .int .i64 0, .int .i64 42, .int .i64 3, .int .i64 2, .int .i64 0, .int .i64 0] 61)) ∧ Is.NT (w13.alloc (.cells #[.int .i64 62, .int .i64 1, .int .i64 0, .int .i64 0, .int .i64 0, .int .i64 67, .int .i64 2, .int .i64 1, .int .i64 0, .int .i64 0, .int .i64 42, .int .i64 3, .int .i64 2, .int .i64 0, .int .i64 0] 61)) ∧ N ≤ (w13.alloc (.cells #[.int .i64 62, .int .i64 1, .int .i64 0, .int .i64 0, .int .i64 0, .int .i64 67, .int .i64 2, .int .i64 1, .int .i64 0, .int .i64 0, .int .i64 42, .int .i64 3, .int .i64 2, .int .i64 0, .int .i64 0] 61)).heap.size) := Lib.hid ⟨HB.out.trans ((bAlloc (Below.refl _ _) _).mono HN.out), HNT.out.on (bAlloc (Below.refl _ _) _), by rw [size_alloc]; have := HN.out; omega⟩
  clear HB HM HNT HN
  go_wp2_with fail
  refine CB.out.mono ?_; rintro e w15 ⟨hb, AC, Bx, MC, FC, rfl, hm⟩
  have HB := Lib.hid (HA'.out.1.trans (hb.mono HA'.out.2.2))
  have HM := Lib.hid hm
  have HNT := Lib.hid (HA'.out.2.1.on hb)
  have HN := Lib.hid (Nat.le_trans HA'.out.2.2 hb.size)
  clear hb hm HA' CB
  try simp only [List.nil_append, List.cons_append] at HM
  go_wp2_with fail
  refine (run_any _).mono ?_; rintro e w16 ⟨rfl, hb⟩
  have HB' := Lib.hid (HB.out.trans (hb.mono HN.out))
  have HM' := Lib.hid (HM.out.below hb)
  have HNT' := Lib.hid (HNT.out.on hb)
  have HN' := Lib.hid (Nat.le_trans HN.out hb.size)
  clear hb HB HM HNT HN
  have HB := HB'
  have HM := HM'
  have HNT := HNT'
  have HN := HN'
  clear HB' HM' HNT' HN'
  go_wp2_with fail
  refine (inst_any _ 65 fEcall (0) (0) (0) (0) _).mono ?_; rintro e w17 ⟨rfl, hb⟩
  have HB' := Lib.hid (HB.out.trans (hb.mono HN.out))
  have HM' := Lib.hid (HM.out.below hb)
  have HNT' := Lib.hid (HNT.out.on hb)
  have HN' := Lib.hid (Nat.le_trans HN.out hb.size)
  clear hb HB HM HNT HN
  have HB := HB'
  have HM := HM'
  have HNT := HNT'
  have HN := HN'
  clear HB' HM' HNT' HN'
  have CB := Lib.hid (ms_both N (w17.alloc (.cells #[.int .i64 65, .int .i64 0, .int .i64 0, .int .i64 0, .int .i64 0] 61)) [⟨AA, MA, FA, sA0⟩, ⟨AB, MB, FB, sB0⟩, ⟨AC, MC, FC, sC0⟩] (HM.out.below (bAlloc (Below.refl _ _) _)) (by rw [size_alloc]; have := HN.out; omega) runP (some ⟨w17.heap.size, 0, none⟩) 1 xsD none 0 [] (Rd.lit w17 #[.int .i64 65, .int .i64 0, .int .i64 0, .int .i64 0, .int .i64 0] 61 (by decide)) (by decide) (Rd.nil _ _) (by decide) fit_run (fun p hp => by cases hp) okD)
  rw [show bothM runP xsD [] = sD0 from rfl] at CB
  rw [show (capC runP).toArray = #[.int .u64 0, .int .u64 2048, .int .u64 0, .int .i64 13, .int .i64 (-1), .bool true] from rfl, show xsD.length = 1 from rfl, show ([] : List Pt).length = 0 from rfl] at CB
  have HA' : Hid (Below N W (w17.alloc (.cells #[.int .i64 65, .int .i64 0, .int .i64 0, .int .i64 0, .int .i64 0] 61)) ∧ Is.NT (w17.alloc (.cells #[.int .i64 65, .int .i64 0, .int .i64 0, .int .i64 0, .int .i64 0] 61)) ∧ N ≤ (w17.alloc (.cells #[.int .i64 65, .int .i64 0, .int .i64 0, .int .i64 0, .int .i64 0] 61)).heap.size) := Lib.hid ⟨HB.out.trans ((bAlloc (Below.refl _ _) _).mono HN.out), HNT.out.on (bAlloc (Below.refl _ _) _), by rw [size_alloc]; have := HN.out; omega⟩
  clear HB HM HNT HN
  go_wp2_with fail
  refine CB.out.mono ?_; rintro e w19 ⟨hb, AD, Bx, MD, FD, rfl, hm⟩
  have HB := Lib.hid (HA'.out.1.trans (hb.mono HA'.out.2.2))
  have HM := Lib.hid hm
  have HNT := Lib.hid (HA'.out.2.1.on hb)
  have HN := Lib.hid (Nat.le_trans HA'.out.2.2 hb.size)
  clear hb hm HA' CB
  try simp only [List.nil_append, List.cons_append] at HM
  obtain ⟨vA, hvA⟩ : ∃ s, sA0 = s := ⟨_, rfl⟩
  obtain ⟨vB, hvB⟩ : ∃ s, sB0 = s := ⟨_, rfl⟩
  obtain ⟨vC, hvC⟩ : ∃ s, sC0 = s := ⟨_, rfl⟩
  obtain ⟨vD, hvD⟩ : ∃ s, sD0 = s := ⟨_, rfl⟩
  have exA1' := exA1
  have exA2' := exA2
  have exA3' := exA3
  have exB1' := exB1
  have exC1' := exC1
  have exC2' := exC2
  have exC3' := exC3
  have exD1' := exD1
  have exD2' := exD2
  rw [hvA] at exA1' exA2' exA3'
  rw [hvB] at exB1'
  rw [hvC] at exC1' exC2' exC3'
  rw [hvD] at exD1' exD2'
  rw [hvA, hvB, hvC, hvD] at HM
  have HE := Lib.hid (And.intro exA1' (And.intro exA2' (And.intro exA3' (And.intro exB1' (And.intro exC1' (And.intro exC2' (And.intro exC3' (And.intro exD1' exD2'))))))))
  clear hvA hvB hvC hvD exA1' exA2' exA3' exB1' exC1' exC2' exC3' exD1' exD2'
  have CS := Lib.hid (ms_step N w19 [] ⟨AA, MA, FA, vA⟩ [⟨AB, MB, FB, vB⟩, ⟨AC, MC, FC, vC⟩, ⟨AD, MD, FD, vD⟩] HM.out HNT.out HG.out.1 HG.out.2)
  simp only [] at CS
  rw [HE.out.1] at CS
  go_wp2_with fail
  refine CS.out.mono ?_; rintro e w20 ⟨rfl, FA1, hm, hnt, hb⟩
  have HB' := Lib.hid (HB.out.trans hb)
  clear HB HM HNT CS
  have HB := HB'
  have HM := Lib.hid hm
  have HNT := Lib.hid hnt
  clear HB' hm hnt hb
  try simp only [List.nil_append, List.cons_append] at HM
  have CS := Lib.hid (ms_step N w20 [] ⟨AA, MA, FA1, (stepP vA).1⟩ [⟨AB, MB, FB, vB⟩, ⟨AC, MC, FC, vC⟩, ⟨AD, MD, FD, vD⟩] HM.out HNT.out HG.out.1 HG.out.2)
  simp only [] at CS
  rw [HE.out.2.1] at CS
  go_wp2_with fail
  refine CS.out.mono ?_; rintro e w21 ⟨rfl, FA2, hm, hnt, hb⟩
  have HB' := Lib.hid (HB.out.trans hb)
  clear HB HM HNT CS
  have HB := HB'
  have HM := Lib.hid hm
  have HNT := Lib.hid hnt
  clear HB' hm hnt hb
  try simp only [List.nil_append, List.cons_append] at HM
  have CS := Lib.hid (ms_step N w21 [⟨AA, MA, FA2, (stepP (stepP vA).1).1⟩] ⟨AB, MB, FB, vB⟩ [⟨AC, MC, FC, vC⟩, ⟨AD, MD, FD, vD⟩] HM.out HNT.out HG.out.1 HG.out.2)
  simp only [] at CS
  rw [HE.out.2.2.2.1] at CS
  go_wp2_with fail
  refine CS.out.mono ?_; rintro e w22 ⟨rfl, FB1, hm, hnt, hb⟩
  have HB' := Lib.hid (HB.out.trans hb)
  clear HB HM HNT CS
  have HB := HB'
  have HM := Lib.hid hm
  have HNT := Lib.hid hnt
  clear HB' hm hnt hb
  try simp only [List.nil_append, List.cons_append] at HM
  have CS := Lib.hid (ms_step N w22 [⟨AA, MA, FA2, (stepP (stepP vA).1).1⟩, ⟨AB, MB, FB1, (stepP vB).1⟩] ⟨AC, MC, FC, vC⟩ [⟨AD, MD, FD, vD⟩] HM.out HNT.out HG.out.1 HG.out.2)
  simp only [] at CS
  rw [HE.out.2.2.2.2.1] at CS
  go_wp2_with fail
  refine CS.out.mono ?_; rintro e w23 ⟨rfl, FC1, hm, hnt, hb⟩
  have HB' := Lib.hid (HB.out.trans hb)
  clear HB HM HNT CS
  have HB := HB'
  have HM := Lib.hid hm
  have HNT := Lib.hid hnt
  clear HB' hm hnt hb
  try simp only [List.nil_append, List.cons_append] at HM
  have CS := Lib.hid (ms_step N w23 [⟨AA, MA, FA2, (stepP (stepP vA).1).1⟩, ⟨AB, MB, FB1, (stepP vB).1⟩] ⟨AC, MC, FC1, (stepP vC).1⟩ [⟨AD, MD, FD, vD⟩] HM.out HNT.out HG.out.1 HG.out.2)
  simp only [] at CS
  rw [HE.out.2.2.2.2.2.1] at CS
  go_wp2_with fail
  refine CS.out.mono ?_; rintro e w24 ⟨rfl, FC2, hm, hnt, hb⟩
  have HB' := Lib.hid (HB.out.trans hb)
  clear HB HM HNT CS
  have HB := HB'
  have HM := Lib.hid hm
  have HNT := Lib.hid hnt
  clear HB' hm hnt hb
  try simp only [List.nil_append, List.cons_append] at HM
  have CS := Lib.hid (ms_step N w24 [⟨AA, MA, FA2, (stepP (stepP vA).1).1⟩, ⟨AB, MB, FB1, (stepP vB).1⟩] ⟨AC, MC, FC2, (stepP (stepP vC).1).1⟩ [⟨AD, MD, FD, vD⟩] HM.out HNT.out HG.out.1 HG.out.2)
  simp only [] at CS
  rw [HE.out.2.2.2.2.2.2.1] at CS
  go_wp2_with fail
  refine CS.out.mono ?_; rintro e w25 ⟨rfl, FC3, hm, hnt, hb⟩
  have HB' := Lib.hid (HB.out.trans hb)
  clear HB HM HNT CS
  have HB := HB'
  have HM := Lib.hid hm
  have HNT := Lib.hid hnt
  clear HB' hm hnt hb
  try simp only [List.nil_append, List.cons_append] at HM
  have CS := Lib.hid (ms_step N w25 [⟨AA, MA, FA2, (stepP (stepP vA).1).1⟩, ⟨AB, MB, FB1, (stepP vB).1⟩, ⟨AC, MC, FC3, (stepP (stepP (stepP vC).1).1).1⟩] ⟨AD, MD, FD, vD⟩ [] HM.out HNT.out HG.out.1 HG.out.2)
  simp only [] at CS
  rw [HE.out.2.2.2.2.2.2.2.1] at CS
  go_wp2_with fail
  refine CS.out.mono ?_; rintro e w26 ⟨rfl, FD1, hm, hnt, hb⟩
  have HB' := Lib.hid (HB.out.trans hb)
  clear HB HM HNT CS
  have HB := HB'
  have HM := Lib.hid hm
  have HNT := Lib.hid hnt
  clear HB' hm hnt hb
  try simp only [List.nil_append, List.cons_append] at HM
  have hA := HM.out.all ⟨AA, MA, FA2, (stepP (stepP vA).1).1⟩ (by simp)
  have hD := HM.out.all ⟨AD, MD, FD1, (stepP vD).1⟩ (by simp)
  have l2 : 2 < (stepP (stepP vA).1).1.rs.length := by rw [hA.mc.len]; decide
  have r2 := (range6 (hA.mc.reg 2 l2)).2.2.1
  have g2 : ((stepP (stepP vA).1).1.rs)[2].a = 10 := by
    have := HE.out.2.2.1
    rw [List.getD_eq_getElem?_getD, List.getElem?_eq_getElem l2] at this
    exact this
  rw [g2] at r2
  have d2 := (range6 hD.mc.pcAt).2.2.1
  rw [HE.out.2.2.2.2.2.2.2.2] at d2
  have r2' : w26.cell? ⟨AA, 20, none⟩ = some (.int .u64 10) := r2
  have d2' : w26.cell? ⟨AD, 2, none⟩ = some (.int .u64 0) := d2
  clear hA hD l2 r2 g2 d2
  go_wp2_with fail
  go_ret
  exact ⟨rfl, HB.out⟩
end Go.Proofs.YtegoddghfjfibaaGreatDoor

