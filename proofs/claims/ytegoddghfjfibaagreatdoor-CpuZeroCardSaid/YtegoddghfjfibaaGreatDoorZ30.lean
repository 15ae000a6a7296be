/- CuP CuR -/
import Derived.Test.YtegoddghfjfibaaGreatDoorZ29
import Derived.Test.YtegoddghfjfibaaGreatDoorZ25
namespace Go.Proofs.YtegoddghfjfibaaGreatDoor
set_option linter.unusedVariables false
set_option linter.unusedSimpArgs false
open Go.Joins Go.ChangeShapes Go.WideShapes Go.ChangeAt Go.RowKit Go.Deep

def low2C : Bool := (List.range 83).all fun k => decide (k ≤ 41) || !(Is.kindZ (Is.bareN (k : Int)) == 2)
theorem low2_ok : low2C = true := by decide +kernel
theorem kind2_low (op : Nat) (h2 : op ≤ 82) (hk : Is.kindZ (Is.bareN (op : Int)) = 2) : op ≤ 41 := by
  have h := low2_ok
  unfold low2C at h
  rw [List.all_eq_true] at h
  have h3 := h op (List.mem_range.2 (by omega))
  rw [hk] at h3
  simpa using h3
theorem kindO_in (op : Nat) (h1 : 1 ≤ op) (h2 : op ≤ 82) : Is.kindO (op : Int) = Is.kindZ (Is.bareN (op : Int)) := by
  unfold Is.kindO
  rw [if_pos (by omega)]
theorem reckon_any (W : World) (A M : Nat) (pc : Cp) (rs : List Cp) (h : McAt W A M pc rs) (fr : ∀ c ∈ rs, FitC c) (nt : Is.NT W) (x : Ins) (h1 : x.r1 < 32) (h2 : x.r2 < 32) (o1 : 1 ≤ x.op) (o2 : x.op ≤ 82) (hkd : kindP x = 1 ∨ kindP x = 2) :
    Calls Tryz.prog 91 #[.pointer (some ⟨A, 0, none⟩), .agg (insV x)] W fun e w' => e = .returned (.agg (capC (reckonP x rs)).toArray) ∧ Below W.heap.size W w' := by
  obtain ⟨op, rd, r1, r2, n⟩ := x
  unfold kindP at hkd
  simp only [] at h1 h2 o1 o2 hkd
  have hko := kindO_in op o1 o2
  have gd := regP_fit fr r1
  have ge := regP_fit fr r2
  unfold reckonP insV nameP kindP
  simp only []
  obtain ⟨⟨db, dt, da, dp, dy, dg⟩, hd⟩ : ∃ d, regP rs r1 = d := ⟨_, rfl⟩
  obtain ⟨⟨fb, ft, fa, fp, fy, fg⟩, hf⟩ : ∃ d, regP rs r2 = d := ⟨_, rfl⟩
  rw [hd] at gd ⊢
  rw [hf] at ge ⊢
  simp only []
  by_cases hlo : op ≤ 41
  · rw [if_pos hlo]
    by_cases hk2 : Is.kindZ (Is.bareN (op : Int)) = 2
    · rw [if_pos hk2]
      exact reckon_all W A M pc rs h nt op rd r1 r2 n h1 h2 db dt da dp dy dg hd fb ft fa fp fy fg hf gd ge _ _ _ _ _ _ (.c0 o1 hlo (by rw [hko, hk2]; rfl) rfl)
    · rw [if_neg hk2]
      exact reckon_all W A M pc rs h nt op rd r1 r2 n h1 h2 db dt da dp dy dg hd fb ft fa fp fy fg hf gd ge _ _ _ _ _ _ (.c1 o1 hlo (by rw [hko]; simpa using hk2) rfl)
  have hhi : 41 < op := by omega
  rw [if_neg hlo]
  have hk2 : Is.kindZ (Is.bareN (op : Int)) ≠ 2 := fun e => hlo (kind2_low op o2 e)
  rw [if_neg hk2]
  have hk : (Is.kindO (op : Int) == 2) = false := by rw [hko]; simpa using hk2
  by_cases s0 : (opN (op : Int) == [99, 115, 101, 116, 98, 111, 117, 110, 100, 115]) = true
  · rw [if_pos s0]
    exact reckon_all W A M pc rs h nt op rd r1 r2 n h1 h2 db dt da dp dy dg hd fb ft fa fp fy fg hf gd ge _ _ _ _ _ _ (.c2 hhi hk s0 rfl)
  rw [if_neg s0]
  rw [Bool.not_eq_true] at s0
  by_cases s1 : (opN (op : Int) == [99, 97, 110, 100, 112, 101, 114, 109]) = true
  · rw [if_pos s1]
    exact reckon_all W A M pc rs h nt op rd r1 r2 n h1 h2 db dt da dp dy dg hd fb ft fa fp fy fg hf gd ge _ _ _ _ _ _ (.c3 hhi hk s0 s1 rfl)
  rw [if_neg s1]
  rw [Bool.not_eq_true] at s1
  by_cases s2 : (opN (op : Int) == [99, 115, 101, 97, 108]) = true
  · rw [if_pos s2]
    exact reckon_all W A M pc rs h nt op rd r1 r2 n h1 h2 db dt da dp dy dg hd fb ft fa fp fy fg hf gd ge _ _ _ _ _ _ (.c4 hhi hk s0 s1 s2 rfl)
  rw [if_neg s2]
  rw [Bool.not_eq_true] at s2
  by_cases s3 : (opN (op : Int) == [99, 117, 110, 115, 101, 97, 108]) = true
  · rw [if_pos s3]
    exact reckon_all W A M pc rs h nt op rd r1 r2 n h1 h2 db dt da dp dy dg hd fb ft fa fp fy fg hf gd ge _ _ _ _ _ _ (.c5 hhi hk s0 s1 s2 s3 rfl)
  rw [if_neg s3]
  rw [Bool.not_eq_true] at s3
  by_cases s4 : (opN (op : Int) == [99, 115, 101, 116, 97, 100, 100, 114]) = true
  · rw [if_pos s4]
    exact reckon_all W A M pc rs h nt op rd r1 r2 n h1 h2 db dt da dp dy dg hd fb ft fa fp fy fg hf gd ge _ _ _ _ _ _ (.c6 hhi hk s0 s1 s2 s3 s4 rfl)
  rw [if_neg s4]
  rw [Bool.not_eq_true] at s4
  by_cases s5 : (opN (op : Int) == [99, 105, 110, 99, 97, 100, 100, 114]) = true
  · rw [if_pos s5]
    exact reckon_all W A M pc rs h nt op rd r1 r2 n h1 h2 db dt da dp dy dg hd fb ft fa fp fy fg hf gd ge _ _ _ _ _ _ (.c7 hhi hk s0 s1 s2 s3 s4 s5 rfl)
  rw [if_neg s5]
  rw [Bool.not_eq_true] at s5
  exact reckon_all W A M pc rs h nt op rd r1 r2 n h1 h2 db dt da dp dy dg hd fb ft fa fp fy fg hf gd ge _ _ _ _ _ _ (.c8 hhi hk s0 s1 s2 s3 s4 s5 rfl)
end Go.Proofs.YtegoddghfjfibaaGreatDoor

namespace Go.Proofs.YtegoddghfjfibaaGreatDoor
set_option linter.unusedVariables false
set_option linter.unusedSimpArgs false
open Go

theorem reckZ_in (op : Nat) (a b : Int) (ha : Al.Inw a) (hb : Al.Inw b) : Al.Inw (Al.reckZ op a b) := by
  unfold Al.reckZ
  split
  · exact Al.d_whole.1 _ (Al.d_sum.1 _ _ (Al.d_whole.1 _ ha) (Al.d_whole.1 _ hb))
  · exact Al.d_whole.1 _ (Al.d_difference.1 _ _ (Al.d_whole.1 _ ha) (Al.d_whole.1 _ hb))
  · exact Al.d_whole.1 _ (Al.d_left.1 _ _ (Al.d_whole.1 _ ha) (Al.d_whole.1 _ hb))
  · exact Al.d_whole.1 _ (Al.d_below.1 _ _ (Al.d_whole.1 _ ha) (Al.d_whole.1 _ hb))
  · exact Al.d_whole.1 _ (Al.d_belowPlain.1 _ _ (Al.d_whole.1 _ ha) (Al.d_whole.1 _ hb))
  · exact Al.d_whole.1 _ (Al.d_xor.1 _ _ (Al.d_whole.1 _ ha) (Al.d_whole.1 _ hb))
  · exact Al.d_whole.1 _ (Al.d_right.1 _ _ (Al.d_whole.1 _ ha) (Al.d_whole.1 _ hb))
  · exact Al.d_whole.1 _ (Al.d_rightSigned.1 _ _ (Al.d_whole.1 _ ha) (Al.d_whole.1 _ hb))
  · exact Al.d_whole.1 _ (Al.d_or.1 _ _ (Al.d_whole.1 _ ha) (Al.d_whole.1 _ hb))
  · exact Al.d_whole.1 _ (Al.d_and.1 _ _ (Al.d_whole.1 _ ha) (Al.d_whole.1 _ hb))
  · exact Al.d_whole.1 _ (Al.d_product.1 _ _ (Al.d_whole.1 _ ha) (Al.d_whole.1 _ hb))
  · exact Al.d_whole.1 _ (Al.d_high.1 _ _ (Al.d_whole.1 _ ha) (Al.d_whole.1 _ hb))
  · exact Al.d_whole.1 _ (Al.d_highMixed.1 _ _ (Al.d_whole.1 _ ha) (Al.d_whole.1 _ hb))
  · exact Al.d_whole.1 _ (Al.d_highPlain.1 _ _ (Al.d_whole.1 _ ha) (Al.d_whole.1 _ hb))
  · exact Al.d_whole.1 _ (Al.d_quotient.1 _ _ (Al.d_whole.1 _ ha) (Al.d_whole.1 _ hb))
  · exact Al.d_whole.1 _ (Al.d_quotientPlain.1 _ _ (Al.d_whole.1 _ ha) (Al.d_whole.1 _ hb))
  · exact Al.d_whole.1 _ (Al.d_rest.1 _ _ (Al.d_whole.1 _ ha) (Al.d_whole.1 _ hb))
  · exact Al.d_whole.1 _ (Al.d_restPlain.1 _ _ (Al.d_whole.1 _ ha) (Al.d_whole.1 _ hb))
  · exact Al.d_signed.1 _ (Al.d_sum.1 _ _ (Al.d_signed.1 _ ha) (Al.d_signed.1 _ hb))
  · exact Al.d_signed.1 _ (Al.d_difference.1 _ _ (Al.d_signed.1 _ ha) (Al.d_signed.1 _ hb))
  · exact Al.d_signed.1 _ (Al.d_leftNarrow.1 _ _ (Al.d_signed.1 _ ha) (Al.d_signed.1 _ hb))
  · exact Al.d_signed.1 _ (Al.d_rightNarrow.1 _ _ (Al.d_plain.1 _ ha) (Al.d_plain.1 _ hb))
  · exact Al.d_signed.1 _ (Al.d_rightSignedNarrow.1 _ _ (Al.d_signed.1 _ ha) (Al.d_signed.1 _ hb))
  · exact Al.d_signed.1 _ (Al.d_product.1 _ _ (Al.d_signed.1 _ ha) (Al.d_signed.1 _ hb))
  · exact Al.d_signed.1 _ (Al.d_quotient.1 _ _ (Al.d_signed.1 _ ha) (Al.d_signed.1 _ hb))
  · exact Al.d_signed.1 _ (Al.d_quotientPlain.1 _ _ (Al.d_plain.1 _ ha) (Al.d_plain.1 _ hb))
  · exact Al.d_signed.1 _ (Al.d_rest.1 _ _ (Al.d_signed.1 _ ha) (Al.d_signed.1 _ hb))
  · exact Al.d_signed.1 _ (Al.d_restPlain.1 _ _ (Al.d_plain.1 _ ha) (Al.d_plain.1 _ hb))
  · exact Al.d_whole.1 _ (Al.d_sum.1 _ _ (Al.d_whole.1 _ ha) (Al.d_whole.1 _ hb))
  · exact Al.d_whole.1 _ (Al.d_below.1 _ _ (Al.d_whole.1 _ ha) (Al.d_whole.1 _ hb))
  · exact Al.d_whole.1 _ (Al.d_belowPlain.1 _ _ (Al.d_whole.1 _ ha) (Al.d_whole.1 _ hb))
  · exact Al.d_whole.1 _ (Al.d_xor.1 _ _ (Al.d_whole.1 _ ha) (Al.d_whole.1 _ hb))
  · exact Al.d_whole.1 _ (Al.d_or.1 _ _ (Al.d_whole.1 _ ha) (Al.d_whole.1 _ hb))
  · exact Al.d_whole.1 _ (Al.d_and.1 _ _ (Al.d_whole.1 _ ha) (Al.d_whole.1 _ hb))
  · exact Al.d_whole.1 _ (Al.d_left.1 _ _ (Al.d_whole.1 _ ha) (Al.d_whole.1 _ hb))
  · exact Al.d_whole.1 _ (Al.d_right.1 _ _ (Al.d_whole.1 _ ha) (Al.d_whole.1 _ hb))
  · exact Al.d_whole.1 _ (Al.d_rightSigned.1 _ _ (Al.d_whole.1 _ ha) (Al.d_whole.1 _ hb))
  · exact Al.d_signed.1 _ (Al.d_sum.1 _ _ (Al.d_signed.1 _ ha) (Al.d_signed.1 _ hb))
  · exact Al.d_signed.1 _ (Al.d_leftNarrow.1 _ _ (Al.d_signed.1 _ ha) (Al.d_signed.1 _ hb))
  · exact Al.d_signed.1 _ (Al.d_rightNarrow.1 _ _ (Al.d_plain.1 _ ha) (Al.d_plain.1 _ hb))
  · exact Al.d_signed.1 _ (Al.d_rightSignedNarrow.1 _ _ (Al.d_signed.1 _ ha) (Al.d_signed.1 _ hb))
  · exact ⟨by decide, by decide⟩
theorem fit_int {x : Int} (h : Al.Inw x) : FitC (intP x) := ⟨(by decide : (0 : Int) ≤ 0), (by decide : (0 : Int) < 18446744073709551616), (by decide : (0 : Int) ≤ 0), (by decide : (0 : Int) < 18446744073709551616), h.1, h.2⟩
theorem wrap_in (x : Int) : Al.Inw (IntKind.u64.wrap x) := ⟨by rw [IntKind.wrap_u64]; omega, by rw [IntKind.wrap_u64]; omega⟩
theorem fit_flag (o : Bool) : FitC (flagP o) := by cases o <;> exact fit_int ⟨by decide, by decide⟩
theorem fit_clear {c : Cp} (h : FitC c) : FitC (clearP c) := ⟨h.b0, h.b1, h.t0, h.t1, h.a0, h.a1⟩
theorem fit_open {c : Cp} (h : FitC c) : FitC (openP c) := ⟨h.b0, h.b1, h.t0, h.t1, h.a0, h.a1⟩
theorem fit_vc (v : Ce.CapV) (h : Al.Inw v.base ∧ Al.Inw v.top ∧ Al.Inw v.at_) : FitC (vcC v) := ⟨h.1.1, h.1.2, h.2.1.1, h.2.1.2, h.2.2.1, h.2.2.2⟩
theorem fit_cv {c : Cp} (h : FitC c) : Al.Inw (cvC c).base ∧ Al.Inw (cvC c).top ∧ Al.Inw (cvC c).at_ := ⟨⟨h.b0, h.b1⟩, ⟨h.t0, h.t1⟩, ⟨h.a0, h.a1⟩⟩
theorem fit_move {c : Cp} (h : FitC c) {x : Int} (hx : Al.Inw x) : FitC (moveP c x) := ⟨h.b0, h.b1, h.t0, h.t1, hx.1, hx.2⟩
theorem fit_clearC {v : Ce.CapV} (h : Al.Inw v.base ∧ Al.Inw v.top ∧ Al.Inw v.at_) : FitC (vcC v.clear) := fit_vc _ h
theorem fit_bound {c : Cp} (h : FitC c) {x : Int} (hx : Al.Inw x) : FitC (boundP c x) := by
  unfold boundP Ce.boundC
  split
  · rename_i hq
    rw [Bool.and_eq_true] at hq
    have h2 := hq.2
    unfold Ce.hasC at h2
    simp only [Bool.and_eq_true, decide_eq_true_eq] at h2
    obtain ⟨g1, g2, g3⟩ := h2
    have e1 : (cvC c).at_ = c.a := rfl
    have e2 : (cvC c).top = c.t := rfl
    rw [e1] at g2 g3
    rw [e2] at g3
    have t1 := h.t1; have a0 := h.a0; have a1 := h.a1
    exact ⟨a0, a1, by show (0 : Int) ≤ c.a + x; have := hx.1; omega, by show c.a + x < _; omega, a0, a1⟩
  · exact fit_clearC (fit_cv h)
theorem fit_seal {c k : Cp} (h : FitC c) : FitC (sealP c k) := by
  unfold sealP Ce.sealC
  split
  · exact fit_vc _ (fit_cv h)
  · exact fit_clearC (fit_cv h)
theorem fit_unseal {c k : Cp} (h : FitC c) : FitC (unsealP c k) := by
  unfold unsealP Ce.unsealC
  split
  · exact fit_vc _ (fit_cv h)
  · exact fit_clearC (fit_cv h)
theorem fit_and {c : Cp} (h : FitC c) (n : Int) : FitC (andP c n) := by
  have : ∀ v : Ce.CapV, (Al.Inw v.base ∧ Al.Inw v.top ∧ Al.Inw v.at_) → FitC (vcC (Ce.andC v n)) := fun v hv => fit_vc _ hv
  exact this _ (fit_cv h)
theorem fit_ahead {pc : Cp} (h : FitC pc) (n : Int) : FitC (aheadP pc n) := fit_move h (wrap_in _)
theorem fit_null : FitC nullC := fit_int (x := 0) ⟨by decide, by decide⟩
theorem fit_reckon {rs : List Cp} (h : ∀ c ∈ rs, FitC c) (x : Ins) : FitC (reckonP x rs) := by
  have ga := regP_fit h x.r1
  have gc := regP_fit h x.r2
  unfold reckonP
  simp only []
  have hn : Al.Inw (if kindP x = 2 then IntKind.u64.wrap x.n else (regP rs x.r2).a) := by
    split
    · exact wrap_in _
    · exact ⟨gc.a0, gc.a1⟩
  generalize (if kindP x = 2 then IntKind.u64.wrap x.n else (regP rs x.r2).a) = n at hn ⊢
  repeat' split
  · exact fit_int (reckZ_in _ _ _ ⟨ga.a0, ga.a1⟩ hn)
  · exact fit_bound ga hn
  · exact fit_and ga _
  · exact fit_seal ga
  · exact fit_unseal ga
  · exact fit_move ga hn
  · exact fit_move ga (wrap_in _)
  · exact fit_flag _
theorem fit_ask {rs : List Cp} (h : ∀ c ∈ rs, FitC c) (x : Ins) : FitC (askP x rs) := by
  have ga := regP_fit h x.r1
  unfold askP
  simp only []
  split
  · exact fit_int (wrap_in _)
  split
  · exact fit_int (wrap_in _)
  split
  · exact fit_int ⟨ga.b0, ga.b1⟩
  split
  · refine fit_int ?_
    have := ga.b0; have := ga.b1; have := ga.t0; have := ga.t1
    split
    · exact ⟨by decide, by decide⟩
    · exact ⟨by omega, by omega⟩
  split
  · exact fit_flag _
  split
  · exact fit_clear ga
  split
  · exact fit_int ⟨ga.a0, ga.a1⟩
  · exact ga
theorem fit_high {pc : Cp} (h : FitC pc) (x : Ins) : FitC (highP x pc) := by
  unfold highP
  split
  · exact fit_ahead h _
  · exact fit_int (wrap_in _)
theorem fit_place {rs : List Cp} (h : ∀ c ∈ rs, FitC c) (x : Ins) : FitC (placeP x rs) := by
  obtain ⟨q1, q2, q3, q4, q5, q6⟩ := regP_fit h x.r1
  unfold placeP
  simp only []
  exact ⟨q1, q2, q3, q4, (wrap_in _).1, (wrap_in _).2⟩
theorem ofB_in {m : Mm} (h : Okm m) (a n : Nat) : Al.Inw ((ofB (manyB m a n) : Nat) : Int) := ⟨by omega, by have := ofB_lt (manyB m a n) (manyB_lt h a n); omega⟩
theorem fit_loadC {m : Mm} (h : Okm m) (a : Int) : FitC (loadC m a).1 := by
  unfold loadC
  split
  · have h1 := ofB_in h a.toNat 8
    have h2 := ofB_in h (a.toNat + 8) 8
    have h3 := ofB_in h (a.toNat + 16) 8
    exact ⟨h1.1, h1.2, h2.1, h2.2, h3.1, h3.2⟩
  · show FitC noCp
    exact ⟨by decide, by decide, by decide, by decide, by decide, by decide⟩
theorem fit_loadCap {m : Mm} (h : Okm m) (c : Cp) : FitC (loadCapP m c).1 := by
  unfold loadCapP
  split
  · exact fit_null
  · simp only []
    split
    · exact fit_clear (fit_loadC h _)
    · exact fit_loadC h _
theorem fit_load {m : Mm} (h : Okm m) (op : Nat) (c : Cp) : FitC (loadP m op c).1 := by
  unfold loadP
  simp only []
  split
  · split
    · exact fit_null
    · refine fit_int ?_
      split
      · exact signZ_in _ _
      · unfold loadF
        split
        · exact ofB_in h _ _
        · exact ⟨by simp only []; omega, by simp only []; omega⟩
  · exact fit_loadCap h c
/-- what an instruction does, or why it does nothing -/
def DoR (W : World) (N A M : Nat) (F : Nat → Prop) (s s' : Mch) (er : Int) (e : Ending) (w' : World) : Prop := ∃ (d : Cp) (F' : Nat → Prop), e = .returned (.tuple #[.agg (capC d).toArray, .int .i64 er]) ∧ ((er ≠ 0 ∧ McS w' N A M F' s) ∨ (er = 0 ∧ d = s'.pc ∧ McS w' N A M F' ⟨s.pc, s'.rs, s'.m⟩)) ∧ McMv W w' F F' A
theorem McS.okm {W : World} {N A M : Nat} {F : Nat → Prop} {s : Mch} (h : McS W N A M F s) : Okm s.m := by
  obtain ⟨⟨⟨B, D, pb, h1⟩, -, -⟩, -⟩ := h
  exact h1.ok
theorem mwriteS_any (W : World) (N A M : Nat) (F : Nat → Prop) (s : Mch) (h : McS W N A M F s) (n : Nat) (hn : n < 32) (c : Cp) (hc : FitC c) :
    Calls Tryz.prog 90 #[.pointer (some ⟨A, 0, none⟩), .int .i64 (n : Int), .agg (capC c).toArray] W fun e w' => e = .returned (.tuple #[]) ∧ McS w' N A M F ⟨s.pc, putP s.rs n c, s.m⟩ ∧ McMv W w' F F A :=
  (mwrite_any W A M s.pc s.rs h.mc n hn c).mono fun e w' q => ⟨q.1, h.mach q.2.1 q.2.2 h.fpc (putP_fit h.frs n hc)⟩
end Go.Proofs.YtegoddghfjfibaaGreatDoor

