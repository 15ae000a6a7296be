/- CuQ -/
import Derived.Test.YtegoddghfjfibaaGreatDoorZ28
import Derived.Test.YtegoddghfjfibaaGreatDoorZ25
namespace Go.Proofs.YtegoddghfjfibaaGreatDoor
set_option linter.unusedVariables false
set_option linter.unusedSimpArgs false
open Go.Joins Go.ChangeShapes Go.WideShapes Go.ChangeAt Go.RowKit Go.Deep

/-- what stands, whatever has come up: two calls done, two boxes made and filled -/
abbrev SvT (W0 : World) (A X r2 : Nat) (XQ : Array Value) (D E : Array Value) (A0 : Act) (d : Nat → Bool) (a : Act) (w : World) : Prop :=
  ∃ v5 v6 v11 v12 v13 v14 v15 v16 v17 : Value, a = (((((((((A0.put (some 5) v5).put (some 6) v6).put (some 11) v11).put (some 12) v12).put (some 13) v13).put (some 14) v14).put (some 15) v15).put (some 16) v16).put (some 17) v17) ∧ Below W0.heap.size W0 w ∧
    (d 0 = true → v11 = .pointer (some ⟨A, 0, none⟩)) ∧
    (d 1 = true → v12 = .agg XQ) ∧
    (d 2 = true → v13 = .agg D) ∧
    (d 3 = true → v14 = .pointer (some ⟨A, 0, none⟩)) ∧
    (d 4 = true → v15 = .pointer (some ⟨X, 3, none⟩)) ∧
    (d 5 = true → v16 = .int .i64 (r2 : Int)) ∧
    (d 6 = true → v17 = .agg E) ∧
    (d 7 = true → ∃ b, v5 = .pointer (some ⟨b, 0, none⟩) ∧ W0.heap.size ≤ b ∧ Bx6 w b ∧ (d 9 = true → BoxN w b D)) ∧
    (d 8 = true → ∃ b, v6 = .pointer (some ⟨b, 0, none⟩) ∧ W0.heap.size ≤ b ∧ Bx6 w b ∧ (d 10 = true → BoxN w b E)) ∧
    (d 7 = true → d 8 = true → v5 ≠ v6) ∧ (d 9 = true → d 7 = true) ∧ (d 10 = true → d 8 = true)
/-- what stands behind the reading -/
structure SvS (W w : World) (b5 b6 : Nat) (XV D E : Array Value) : Prop where
  b : Below W.heap.size W w
  x : BoxN w W.heap.size XV
  d : BoxN w b5 D
  e : BoxN w b6 E
  n1 : W.heap.size < b5
  n2 : W.heap.size < b6
theorem SvS.below {W w w' : World} {b5 b6 : Nat} {XV D E : Array Value} (h : SvS W w b5 b6 XV D E) (hb : Below w.heap.size w w') : SvS W w' b5 b6 XV D E :=
  ⟨h.b.trans (hb.mono h.b.size), boxN_below h.x hb, boxN_below h.d hb, boxN_below h.e hb, h.n1, h.n2⟩
theorem sv_keep {W w1 W5 : World} {N A M b5 b6 : Nat} {F F' : Nat → Prop} {s : Mch} {m' : Mm} {XV D E : Array Value} {va vb : Value} (h : McS W N A M F s) (hs : SvS W w1 b5 b6 XV D E) (hd : D[2]? = some va) (he : E[2]? = some vb) (ho : Own1 W5 N F' M m') (hm : Moves w1 W5 F F') :
    W5.cell? ⟨A, 198, none⟩ = some (.pointer (some ⟨M, 0, none⟩)) ∧ W5.cell? ⟨b5, 2, none⟩ = some va ∧ W5.cell? ⟨b6, 2, none⟩ = some vb := by
  have hf : ∀ q, W.heap.size ≤ q → ¬ F q := fun q hq e => by have := h.own.lt q e; omega
  have h5 := hs.d.kp hm.kp hs.d.lt (hf _ (Nat.le_of_lt hs.n1))
  have h6 := hs.e.kp hm.kp hs.e.lt (hf _ (Nat.le_of_lt hs.n2))
  exact ⟨(((h.below hs.b).mem ho hm).1).mc.mem, (h5.cell 2).trans hd, (h6.cell 2).trans he⟩
/-- what is saved -/
inductive SvC (m : Mm) (ok : Bool) (nn : Int) (an : Nat) (c v : Cp) (m1 : Mm) (er : Int) : Prop where
  | cap (h0 : ok = false) (h1 : saveCapP m c v = (m1, er))
  | bad (h0 : ok = true) (h1 : checkP c nn 2 = er) (h2 : er ≠ 0) (h3 : m1 = m)
  | go (h0 : ok = true) (h1 : checkP c nn 2 = 0) (h2 : storeF m an nn v.a = (m1, er))
set_option maxHeartbeats 16000000 in
theorem save_all (W : World) (N A M : Nat) (F : Nat → Prop) (s : Mch) (h : McS W N A M F s) (nt : Is.NT W) (op rd r1 r2 : Nat) (n : Int) (h1 : r1 < 32) (h2 : r2 < 32) (an : Nat) (cb ct cp cy : Int) (cg : Bool) (hpl : placeP ⟨op, rd, r1, r2, n⟩ s.rs = ⟨cb, ct, (an : Int), cp, cy, cg⟩) (vb vt va vp vy : Int) (vg : Bool) (hf : regP s.rs r2 = ⟨vb, vt, va, vp, vy, vg⟩) (hc : FitC ⟨cb, ct, (an : Int), cp, cy, cg⟩) (hv : FitC ⟨vb, vt, va, vp, vy, vg⟩) (nn : Int) (sg ok : Bool) (hw : Al.widthZ (opN (op : Int)) = (nn, sg, ok)) (m1 : Mm) (er : Int) (hcs : SvC s.m ok nn an ⟨cb, ct, (an : Int), cp, cy, cg⟩ ⟨vb, vt, va, vp, vy, vg⟩ m1 er) :
    Calls Tryz.prog 94 #[.pointer (some ⟨A, 0, none⟩), .agg #[.int .i64 (op : Int), .int .i64 (rd : Int), .int .i64 (r1 : Int), .int .i64 (r2 : Int), .int .i64 n]] W fun e w' => e = .returned (.int .i64 er) ∧ ∃ F', McS w' N A M F' ⟨s.pc, s.rs, m1⟩ ∧ McMv W w' F F' A := by
  have HWD := Lib.hid (fun w (hb : Below W.heap.size W w) => Al.width_any (op : Int) w (nt.on hb))
  have HWI := Lib.hid (width_in (opN (op : Int)))
  rw [hw] at HWD HWI
  simp only [] at HWD HWI
  have HCS := Lib.hid hcs
  have HFC := Lib.hid hc
  have HFV := Lib.hid hv
  have hb1 := bAlloc (Below.refl W.heap.size W) (.cells #[.int .i64 (op : Int), .int .i64 (rd : Int), .int .i64 (r1 : Int), .int .i64 (r2 : Int), .int .i64 n] 61)
  have hx1 := BoxN.new W #[.int .i64 (op : Int), .int .i64 (rd : Int), .int .i64 (r1 : Int), .int .i64 (r2 : Int), .int .i64 n] 61
  have hs1 := size_alloc W (.cells #[.int .i64 (op : Int), .int .i64 (rd : Int), .int .i64 (r1 : Int), .int .i64 (r2 : Int), .int .i64 n] 61)
  obtain ⟨W0, hW0⟩ : ∃ W0, W.alloc (.cells #[.int .i64 (op : Int), .int .i64 (rd : Int), .int .i64 (r1 : Int), .int .i64 (r2 : Int), .int .i64 n] 61) = W0 := ⟨_, rfl⟩
  rw [hW0] at hb1 hx1 hs1
  have C1 := fun w (hb : Below W0.heap.size W0 w) => mplace_any w A M s.pc s.rs ((h.mc.below hb1).below hb) ⟨op, rd, r1, r2, n⟩ h1
  have C2 := fun w (hb : Below W0.heap.size W0 w) => mread_any w A M s.pc s.rs ((h.mc.below hb1).below hb) r2 h2
  rw [hpl] at C1
  rw [hf] at C2
  unfold insV capC at C1
  unfold capC at C2
  simp only [] at C1 C2
  have HC1 := Lib.hid C1
  have HC2 := Lib.hid C2
  have HW0 := Lib.hid hW0
  have HB := Lib.hid hb1
  have HX := Lib.hid hx1
  have HS0 := Lib.hid hs1
  have HM := Lib.hid h
  have HSX := Lib.hid (fun (w : World) (hb : Below W0.heap.size W0 w) => (show w.cell? ⟨W.heap.size, 0, none⟩ = some (.int .i64 (op : Int)) ∧ w.cell? ⟨W.heap.size, 1, none⟩ = some (.int .i64 (rd : Int)) ∧ w.cell? ⟨W.heap.size, 2, none⟩ = some (.int .i64 (r1 : Int)) ∧ w.cell? ⟨W.heap.size, 3, none⟩ = some (.int .i64 (r2 : Int)) ∧ w.cell? ⟨W.heap.size, 4, none⟩ = some (.int .i64 n) from ⟨(boxN_below hx1 hb).cell 0, (boxN_below hx1 hb).cell 1, (boxN_below hx1 hb).cell 2, (boxN_below hx1 hb).cell 3, (boxN_below hx1 hb).cell 4⟩))
  clear hW0 hb1 hx1 hs1 h nt hpl hf C1 C2 hc hv hw hcs
  go_enter Tryz.func94, Tryz.ntmps94
  go_upto_region 1 with fail
  (try rw [HW0.out])
  clear HW0
  refine wp_region_invA (by kernel_rfl) (by kernel_rfl) (SvT W0 A W.heap.size r2 #[.int .i64 (op : Int), .int .i64 (rd : Int), .int .i64 (r1 : Int), .int .i64 (r2 : Int), .int .i64 n] #[.int .u64 cb, .int .u64 ct, .int .u64 (an : Int), .int .i64 cp, .int .i64 cy, .bool cg] #[.int .u64 vb, .int .u64 vt, .int .u64 va, .int .i64 vp, .int .i64 vy, .bool vg]) ?_ (Steps.cons ?_ (Steps.cons ?_ (Steps.cons ?_ (Steps.cons ?_ (Steps.cons ?_ (Steps.cons ?_ (Steps.cons ?_ (Steps.cons ?_ (Steps.cons ?_ (Steps.cons ?_ (Steps.cons ?_ (Steps.nil)))))))))))) ?_
  · exact ⟨_, _, _, _, _, _, _, _, _, (by simp only [Act.put, List.setIfInBounds_toArray, List.set_cons_zero, List.set_cons_succ]; rfl), Below.drew (Below.refl _ _), fun h => (by cases h), fun h => (by cases h), fun h => (by cases h), fun h => (by cases h), fun h => (by cases h), fun h => (by cases h), fun h => (by cases h), fun h => (by cases h), fun h => (by cases h), fun h => (by cases h), fun h => (by cases h), fun h => (by cases h)⟩
  · rintro d a w hd hall ⟨v5, v6, v11, v12, v13, v14, v15, v16, v17, rfl, hb, h0, h1, h2, h3, h4, h5, h6, h7, h8, hne, g10, g11⟩ K' hK
    clear hall
    simp only [Act.put, List.setIfInBounds_toArray, List.set_cons_zero, List.set_cons_succ]
    go_simp
    exact hK.out _ _ ⟨v5, v6, .pointer (some ⟨A, 0, none⟩), v12, v13, v14, v15, v16, v17, (by simp only [Act.put, List.setIfInBounds_toArray, List.set_cons_zero, List.set_cons_succ]), hb, fun _ => rfl, fun h => h1 (dn h rfl), fun h => h2 (dn h rfl), fun h => h3 (dn h rfl), fun h => h4 (dn h rfl), fun h => h5 (dn h rfl), fun h => h6 (dn h rfl), fun h => (by obtain ⟨b, q1, q2, q3, q4⟩ := h7 (dn h rfl); exact ⟨b, q1, q2, q3, fun h => q4 (dn h rfl)⟩), fun h => (by obtain ⟨b, q1, q2, q3, q4⟩ := h8 (dn h rfl); exact ⟨b, q1, q2, q3, fun h => q4 (dn h rfl)⟩), fun h k => hne (dn h rfl) (dn k rfl), fun h => (by show (_ || _) = true; rw [g10 (dn h rfl)]; rfl), fun h => (by show (_ || _) = true; rw [g11 (dn h rfl)]; rfl)⟩
  · rintro d a w hd hall ⟨v5, v6, v11, v12, v13, v14, v15, v16, v17, rfl, hb, h0, h1, h2, h3, h4, h5, h6, h7, h8, hne, g10, g11⟩ K' hK
    clear hall
    simp only [Act.put, List.setIfInBounds_toArray, List.set_cons_zero, List.set_cons_succ]
    have xx := HSX.out w hb
    have p0 := xx.1; have p1 := xx.2.1; have p2 := xx.2.2.1; have p3 := xx.2.2.2.1; have p4 := xx.2.2.2.2; clear xx
    go_simp
    exact hK.out _ _ ⟨v5, v6, v11, .agg #[.int .i64 (op : Int), .int .i64 (rd : Int), .int .i64 (r1 : Int), .int .i64 (r2 : Int), .int .i64 n], v13, v14, v15, v16, v17, (by simp only [Act.put, List.setIfInBounds_toArray, List.set_cons_zero, List.set_cons_succ]), hb, fun h => h0 (dn h rfl), fun _ => rfl, fun h => h2 (dn h rfl), fun h => h3 (dn h rfl), fun h => h4 (dn h rfl), fun h => h5 (dn h rfl), fun h => h6 (dn h rfl), fun h => (by obtain ⟨b, q1, q2, q3, q4⟩ := h7 (dn h rfl); exact ⟨b, q1, q2, q3, fun h => q4 (dn h rfl)⟩), fun h => (by obtain ⟨b, q1, q2, q3, q4⟩ := h8 (dn h rfl); exact ⟨b, q1, q2, q3, fun h => q4 (dn h rfl)⟩), fun h k => hne (dn h rfl) (dn k rfl), fun h => (by show (_ || _) = true; rw [g10 (dn h rfl)]; rfl), fun h => (by show (_ || _) = true; rw [g11 (dn h rfl)]; rfl)⟩
  · rintro d a w hd hall ⟨v5, v6, v11, v12, v13, v14, v15, v16, v17, rfl, hb, h0, h1, h2, h3, h4, h5, h6, h7, h8, hne, g10, g11⟩ K' hK
    have e0 : d 0 = true := hall ⟨0, .data⟩ (by simp) rfl
    have e1 : d 1 = true := hall ⟨1, .data⟩ (by simp) rfl
    clear hall
    obtain rfl := h0 e0
    obtain rfl := h1 e1
    simp only [Act.put, List.setIfInBounds_toArray, List.set_cons_zero, List.set_cons_succ]
    go_simp
    go_at_call 148
    refine (HC1.out w hb).mono ?_; rintro e w5 ⟨rfl, hl⟩
    have hb5 := hb.trans (hl.mono hb.size)
    simp only []
    go_simp
    exact hK.out _ _ ⟨v5, v6, .pointer (some ⟨A, 0, none⟩), .agg #[.int .i64 (op : Int), .int .i64 (rd : Int), .int .i64 (r1 : Int), .int .i64 (r2 : Int), .int .i64 n], .agg #[.int .u64 cb, .int .u64 ct, .int .u64 (an : Int), .int .i64 cp, .int .i64 cy, .bool cg], v14, v15, v16, v17, (by simp only [Act.put, List.setIfInBounds_toArray, List.set_cons_zero, List.set_cons_succ]), hb5, fun _ => rfl, fun _ => rfl, fun _ => rfl, fun h => h3 (dn h rfl), fun h => h4 (dn h rfl), fun h => h5 (dn h rfl), fun h => h6 (dn h rfl), fun h => (by obtain ⟨b, q1, q2, q3, q4⟩ := h7 (dn h rfl); exact ⟨b, q1, q2, q3.below hl, fun h => boxN_below (q4 (dn h rfl)) hl⟩), fun h => (by obtain ⟨b, q1, q2, q3, q4⟩ := h8 (dn h rfl); exact ⟨b, q1, q2, q3.below hl, fun h => boxN_below (q4 (dn h rfl)) hl⟩), fun h k => hne (dn h rfl) (dn k rfl), fun h => (by show (_ || _) = true; rw [g10 (dn h rfl)]; rfl), fun h => (by show (_ || _) = true; rw [g11 (dn h rfl)]; rfl)⟩
  · rintro d a w hd hall ⟨v5, v6, v11, v12, v13, v14, v15, v16, v17, rfl, hb, h0, h1, h2, h3, h4, h5, h6, h7, h8, hne, g10, g11⟩ K' hK
    clear hall
    simp only [Act.put, List.setIfInBounds_toArray, List.set_cons_zero, List.set_cons_succ]
    go_simp
    exact hK.out _ _ ⟨v5, v6, v11, v12, v13, .pointer (some ⟨A, 0, none⟩), v15, v16, v17, (by simp only [Act.put, List.setIfInBounds_toArray, List.set_cons_zero, List.set_cons_succ]), hb, fun h => h0 (dn h rfl), fun h => h1 (dn h rfl), fun h => h2 (dn h rfl), fun _ => rfl, fun h => h4 (dn h rfl), fun h => h5 (dn h rfl), fun h => h6 (dn h rfl), fun h => (by obtain ⟨b, q1, q2, q3, q4⟩ := h7 (dn h rfl); exact ⟨b, q1, q2, q3, fun h => q4 (dn h rfl)⟩), fun h => (by obtain ⟨b, q1, q2, q3, q4⟩ := h8 (dn h rfl); exact ⟨b, q1, q2, q3, fun h => q4 (dn h rfl)⟩), fun h k => hne (dn h rfl) (dn k rfl), fun h => (by show (_ || _) = true; rw [g10 (dn h rfl)]; rfl), fun h => (by show (_ || _) = true; rw [g11 (dn h rfl)]; rfl)⟩
  · rintro d a w hd hall ⟨v5, v6, v11, v12, v13, v14, v15, v16, v17, rfl, hb, h0, h1, h2, h3, h4, h5, h6, h7, h8, hne, g10, g11⟩ K' hK
    clear hall
    simp only [Act.put, List.setIfInBounds_toArray, List.set_cons_zero, List.set_cons_succ]
    go_simp
    exact hK.out _ _ ⟨v5, v6, v11, v12, v13, v14, .pointer (some ⟨W.heap.size, 3, none⟩), v16, v17, (by simp only [Act.put, List.setIfInBounds_toArray, List.set_cons_zero, List.set_cons_succ]), hb, fun h => h0 (dn h rfl), fun h => h1 (dn h rfl), fun h => h2 (dn h rfl), fun h => h3 (dn h rfl), fun _ => rfl, fun h => h5 (dn h rfl), fun h => h6 (dn h rfl), fun h => (by obtain ⟨b, q1, q2, q3, q4⟩ := h7 (dn h rfl); exact ⟨b, q1, q2, q3, fun h => q4 (dn h rfl)⟩), fun h => (by obtain ⟨b, q1, q2, q3, q4⟩ := h8 (dn h rfl); exact ⟨b, q1, q2, q3, fun h => q4 (dn h rfl)⟩), fun h k => hne (dn h rfl) (dn k rfl), fun h => (by show (_ || _) = true; rw [g10 (dn h rfl)]; rfl), fun h => (by show (_ || _) = true; rw [g11 (dn h rfl)]; rfl)⟩
  · rintro d a w hd hall ⟨v5, v6, v11, v12, v13, v14, v15, v16, v17, rfl, hb, h0, h1, h2, h3, h4, h5, h6, h7, h8, hne, g10, g11⟩ K' hK
    have e4 : d 4 = true := hall ⟨4, .data⟩ (by simp) rfl
    clear hall
    obtain rfl := h4 e4
    simp only [Act.put, List.setIfInBounds_toArray, List.set_cons_zero, List.set_cons_succ]
    have xx := HSX.out w hb
    have p3 := xx.2.2.2.1; clear xx
    go_simp
    exact hK.out _ _ ⟨v5, v6, v11, v12, v13, v14, .pointer (some ⟨W.heap.size, 3, none⟩), .int .i64 (r2 : Int), v17, (by simp only [Act.put, List.setIfInBounds_toArray, List.set_cons_zero, List.set_cons_succ]), hb, fun h => h0 (dn h rfl), fun h => h1 (dn h rfl), fun h => h2 (dn h rfl), fun h => h3 (dn h rfl), fun _ => rfl, fun _ => rfl, fun h => h6 (dn h rfl), fun h => (by obtain ⟨b, q1, q2, q3, q4⟩ := h7 (dn h rfl); exact ⟨b, q1, q2, q3, fun h => q4 (dn h rfl)⟩), fun h => (by obtain ⟨b, q1, q2, q3, q4⟩ := h8 (dn h rfl); exact ⟨b, q1, q2, q3, fun h => q4 (dn h rfl)⟩), fun h k => hne (dn h rfl) (dn k rfl), fun h => (by show (_ || _) = true; rw [g10 (dn h rfl)]; rfl), fun h => (by show (_ || _) = true; rw [g11 (dn h rfl)]; rfl)⟩
  · rintro d a w hd hall ⟨v5, v6, v11, v12, v13, v14, v15, v16, v17, rfl, hb, h0, h1, h2, h3, h4, h5, h6, h7, h8, hne, g10, g11⟩ K' hK
    have e3 : d 3 = true := hall ⟨3, .data⟩ (by simp) rfl
    have e5 : d 5 = true := hall ⟨5, .data⟩ (by simp) rfl
    clear hall
    obtain rfl := h3 e3
    obtain rfl := h5 e5
    simp only [Act.put, List.setIfInBounds_toArray, List.set_cons_zero, List.set_cons_succ]
    go_simp
    go_at_call 96
    refine (HC2.out w hb).mono ?_; rintro e w5 ⟨rfl, hl⟩
    have hb5 := hb.trans (hl.mono hb.size)
    simp only []
    go_simp
    exact hK.out _ _ ⟨v5, v6, v11, v12, v13, .pointer (some ⟨A, 0, none⟩), v15, .int .i64 (r2 : Int), .agg #[.int .u64 vb, .int .u64 vt, .int .u64 va, .int .i64 vp, .int .i64 vy, .bool vg], (by simp only [Act.put, List.setIfInBounds_toArray, List.set_cons_zero, List.set_cons_succ]), hb5, fun h => h0 (dn h rfl), fun h => h1 (dn h rfl), fun h => h2 (dn h rfl), fun _ => rfl, fun h => h4 (dn h rfl), fun _ => rfl, fun _ => rfl, fun h => (by obtain ⟨b, q1, q2, q3, q4⟩ := h7 (dn h rfl); exact ⟨b, q1, q2, q3.below hl, fun h => boxN_below (q4 (dn h rfl)) hl⟩), fun h => (by obtain ⟨b, q1, q2, q3, q4⟩ := h8 (dn h rfl); exact ⟨b, q1, q2, q3.below hl, fun h => boxN_below (q4 (dn h rfl)) hl⟩), fun h k => hne (dn h rfl) (dn k rfl), fun h => (by show (_ || _) = true; rw [g10 (dn h rfl)]; rfl), fun h => (by show (_ || _) = true; rw [g11 (dn h rfl)]; rfl)⟩
  · rintro d a w hd hall ⟨v5, v6, v11, v12, v13, v14, v15, v16, v17, rfl, hb, h0, h1, h2, h3, h4, h5, h6, h7, h8, hne, g10, g11⟩ K' hK
    clear hall
    simp only [Act.put, List.setIfInBounds_toArray, List.set_cons_zero, List.set_cons_succ]
    go_simp
    have hl : Below w.heap.size w (w.alloc (.cells #[.int .u64 0, .int .u64 0, .int .u64 0, .int .i64 0, .int .i64 0, .bool false] 24)) := bAlloc (Below.refl _ _) _
    exact hK.out _ _ ⟨.pointer (some ⟨w.heap.size, 0, none⟩), v6, v11, v12, v13, v14, v15, v16, v17, (by simp only [Act.put, List.setIfInBounds_toArray, List.set_cons_zero, List.set_cons_succ]), hb.trans (hl.mono hb.size), fun h => h0 (dn h rfl), fun h => h1 (dn h rfl), fun h => h2 (dn h rfl), fun h => h3 (dn h rfl), fun h => h4 (dn h rfl), fun h => h5 (dn h rfl), fun h => h6 (dn h rfl), fun _ => ⟨w.heap.size, rfl, hb.size, ⟨_, _, _, _, _, _, BoxN.new w #[.int .u64 0, .int .u64 0, .int .u64 0, .int .i64 0, .int .i64 0, .bool false] 24⟩, fun h => absurd (g10 (dn h rfl)) (by rw [hd]; decide)⟩, fun h => (by obtain ⟨b, q1, q2, q3, q4⟩ := h8 (dn h rfl); exact ⟨b, q1, q2, q3.below hl, fun h => boxN_below (q4 (dn h rfl)) hl⟩), fun h k e => (by obtain ⟨b, q1, q2, q3, q4⟩ := h8 (dn k rfl); rw [q1] at e; cases e; have := q3.lt; omega), fun h => (by show (_ || _) = true; rw [g10 (dn h rfl)]; rfl), fun h => (by show (_ || _) = true; rw [g11 (dn h rfl)]; rfl)⟩
  · rintro d a w hd hall ⟨v5, v6, v11, v12, v13, v14, v15, v16, v17, rfl, hb, h0, h1, h2, h3, h4, h5, h6, h7, h8, hne, g10, g11⟩ K' hK
    clear hall
    simp only [Act.put, List.setIfInBounds_toArray, List.set_cons_zero, List.set_cons_succ]
    go_simp
    have hl : Below w.heap.size w (w.alloc (.cells #[.int .u64 0, .int .u64 0, .int .u64 0, .int .i64 0, .int .i64 0, .bool false] 24)) := bAlloc (Below.refl _ _) _
    exact hK.out _ _ ⟨v5, .pointer (some ⟨w.heap.size, 0, none⟩), v11, v12, v13, v14, v15, v16, v17, (by simp only [Act.put, List.setIfInBounds_toArray, List.set_cons_zero, List.set_cons_succ]), hb.trans (hl.mono hb.size), fun h => h0 (dn h rfl), fun h => h1 (dn h rfl), fun h => h2 (dn h rfl), fun h => h3 (dn h rfl), fun h => h4 (dn h rfl), fun h => h5 (dn h rfl), fun h => h6 (dn h rfl), fun h => (by obtain ⟨b, q1, q2, q3, q4⟩ := h7 (dn h rfl); exact ⟨b, q1, q2, q3.below hl, fun h => boxN_below (q4 (dn h rfl)) hl⟩), fun _ => ⟨w.heap.size, rfl, hb.size, ⟨_, _, _, _, _, _, BoxN.new w #[.int .u64 0, .int .u64 0, .int .u64 0, .int .i64 0, .int .i64 0, .bool false] 24⟩, fun h => absurd (g11 (dn h rfl)) (by rw [hd]; decide)⟩, fun h k e => (by obtain ⟨b, q1, q2, q3, q4⟩ := h7 (dn h rfl); rw [q1] at e; cases e; have := q3.lt; omega), fun h => (by show (_ || _) = true; rw [g10 (dn h rfl)]; rfl), fun h => (by show (_ || _) = true; rw [g11 (dn h rfl)]; rfl)⟩
  · rintro d a w hd hall ⟨v5, v6, v11, v12, v13, v14, v15, v16, v17, rfl, hb, h0, h1, h2, h3, h4, h5, h6, h7, h8, hne, g10, g11⟩ K' hK
    have e7 : d 7 = true := hall ⟨7, .data⟩ (by simp) rfl
    have e8 : d 8 = true := hall ⟨8, .phase⟩ (by simp) rfl
    have e2 : d 2 = true := hall ⟨2, .data⟩ (by simp) rfl
    clear hall
    apply Exists.elim (h7 e7)
    intro b5 z5
    have q5 := z5.1
    have hg5 := z5.2.1
    have hx5 := z5.2.2.1
    have hc5 := z5.2.2.2
    subst q5
    apply Exists.elim (h8 e8)
    intro b6 z6
    have q6 := z6.1
    have hg6 := z6.2.1
    have hx6 := z6.2.2.1
    have hc6 := z6.2.2.2
    subst q6
    obtain rfl := h2 e2
    simp only [Act.put, List.setIfInBounds_toArray, List.set_cons_zero, List.set_cons_succ]
    have n56 : b5 ≠ b6 := fun e => hne e7 e8 (by rw [e])
    have n65 : b6 ≠ b5 := fun e => n56 e.symm
    apply Exists.elim hx5; intro c0 y0; apply Exists.elim y0; intro c1 y1; apply Exists.elim y1; intro c2 y2; apply Exists.elim y2; intro c3 y3; apply Exists.elim y3; intro c4 y4; apply Exists.elim y4; intro c5 hx
    clear y0 y1 y2 y3 y4
    have zz := boxN6 hx
    have i0 := zz.1.1; have i1 := zz.1.2.1; have i2 := zz.1.2.2.1; have i3 := zz.1.2.2.2.1; have i4 := zz.1.2.2.2.2.1; have i5 := zz.1.2.2.2.2.2
    have j0 := zz.2.1; have j1 := zz.2.2.1; have j2 := zz.2.2.2.1; have j3 := zz.2.2.2.2.1; have j4 := zz.2.2.2.2.2.1; have j5 := zz.2.2.2.2.2.2
    clear zz
    go_simp
    exact hK.out _ _ ⟨.pointer (some ⟨b5, 0, none⟩), .pointer (some ⟨b6, 0, none⟩), v11, v12, .agg #[.int .u64 cb, .int .u64 ct, .int .u64 (an : Int), .int .i64 cp, .int .i64 cy, .bool cg], v14, v15, v16, v17, (by simp only [Act.put, List.setIfInBounds_toArray, List.set_cons_zero, List.set_cons_succ]), below_set6 hb hg5, fun h => h0 (dn h rfl), fun h => h1 (dn h rfl), fun _ => rfl, fun h => h3 (dn h rfl), fun h => h4 (dn h rfl), fun h => h5 (dn h rfl), fun h => h6 (dn h rfl), fun _ => ⟨b5, rfl, hg5, ⟨_, _, _, _, _, _, box_s6' hx (.int .u64 cb) (.int .u64 ct) (.int .u64 (an : Int)) (.int .i64 cp) (.int .i64 cy) (.bool cg)⟩, fun _ => box_s6' hx (.int .u64 cb) (.int .u64 ct) (.int .u64 (an : Int)) (.int .i64 cp) (.int .i64 cy) (.bool cg)⟩, fun _ => ⟨b6, rfl, hg6, hx6.off n56 (.int .u64 cb) (.int .u64 ct) (.int .u64 (an : Int)) (.int .i64 cp) (.int .i64 cy) (.bool cg), fun h => box_off6 (hc6 (dn h rfl)) n56 (.int .u64 cb) (.int .u64 ct) (.int .u64 (an : Int)) (.int .i64 cp) (.int .i64 cy) (.bool cg)⟩, fun h k => hne e7 e8, fun _ => (by show (_ || _) = true; rw [e7]; rfl), fun h => (by show (_ || _) = true; rw [g11 (dn h rfl)]; rfl)⟩
  · rintro d a w hd hall ⟨v5, v6, v11, v12, v13, v14, v15, v16, v17, rfl, hb, h0, h1, h2, h3, h4, h5, h6, h7, h8, hne, g10, g11⟩ K' hK
    have e8 : d 8 = true := hall ⟨8, .data⟩ (by simp) rfl
    have e7 : d 7 = true := hall ⟨7, .phase⟩ (by simp) rfl
    have e6 : d 6 = true := hall ⟨6, .data⟩ (by simp) rfl
    have e9 : d 9 = true := hall ⟨9, .chain⟩ (by simp) rfl
    clear hall
    apply Exists.elim (h8 e8)
    intro b6 z6
    have q6 := z6.1
    have hg6 := z6.2.1
    have hx6 := z6.2.2.1
    have hc6 := z6.2.2.2
    subst q6
    apply Exists.elim (h7 e7)
    intro b5 z5
    have q5 := z5.1
    have hg5 := z5.2.1
    have hx5 := z5.2.2.1
    have hc5 := z5.2.2.2
    subst q5
    obtain rfl := h6 e6
    simp only [Act.put, List.setIfInBounds_toArray, List.set_cons_zero, List.set_cons_succ]
    have n56 : b5 ≠ b6 := fun e => hne e7 e8 (by rw [e])
    have n65 : b6 ≠ b5 := fun e => n56 e.symm
    apply Exists.elim hx6; intro c0 y0; apply Exists.elim y0; intro c1 y1; apply Exists.elim y1; intro c2 y2; apply Exists.elim y2; intro c3 y3; apply Exists.elim y3; intro c4 y4; apply Exists.elim y4; intro c5 hx
    clear y0 y1 y2 y3 y4
    have zz := boxN6 hx
    have i0 := zz.1.1; have i1 := zz.1.2.1; have i2 := zz.1.2.2.1; have i3 := zz.1.2.2.2.1; have i4 := zz.1.2.2.2.2.1; have i5 := zz.1.2.2.2.2.2
    have j0 := zz.2.1; have j1 := zz.2.2.1; have j2 := zz.2.2.2.1; have j3 := zz.2.2.2.2.1; have j4 := zz.2.2.2.2.2.1; have j5 := zz.2.2.2.2.2.2
    clear zz
    go_simp
    exact hK.out _ _ ⟨.pointer (some ⟨b5, 0, none⟩), .pointer (some ⟨b6, 0, none⟩), v11, v12, v13, v14, v15, v16, .agg #[.int .u64 vb, .int .u64 vt, .int .u64 va, .int .i64 vp, .int .i64 vy, .bool vg], (by simp only [Act.put, List.setIfInBounds_toArray, List.set_cons_zero, List.set_cons_succ]), below_set6 hb hg6, fun h => h0 (dn h rfl), fun h => h1 (dn h rfl), fun h => h2 (dn h rfl), fun h => h3 (dn h rfl), fun h => h4 (dn h rfl), fun h => h5 (dn h rfl), fun _ => rfl, fun _ => ⟨b5, rfl, hg5, hx5.off n65 (.int .u64 vb) (.int .u64 vt) (.int .u64 va) (.int .i64 vp) (.int .i64 vy) (.bool vg), fun h => box_off6 (hc5 (dn h rfl)) n65 (.int .u64 vb) (.int .u64 vt) (.int .u64 va) (.int .i64 vp) (.int .i64 vy) (.bool vg)⟩, fun _ => ⟨b6, rfl, hg6, ⟨_, _, _, _, _, _, box_s6' hx (.int .u64 vb) (.int .u64 vt) (.int .u64 va) (.int .i64 vp) (.int .i64 vy) (.bool vg)⟩, fun _ => box_s6' hx (.int .u64 vb) (.int .u64 vt) (.int .u64 va) (.int .i64 vp) (.int .i64 vy) (.bool vg)⟩, fun h k => hne e7 e8, fun h => (by show (_ || _) = true; rw [g10 (dn h rfl)]; rfl), fun _ => (by show (_ || _) = true; rw [e8]; rfl)⟩
  · rintro d a w hl ⟨v5, v6, v11, v12, v13, v14, v15, v16, v17, rfl, hb, h0, h1, h2, h3, h4, h5, h6, h7, h8, hne, g10, g11⟩
    have dd : ∀ i, i < 11 → d i = true := hl
    obtain ⟨b5, rfl, hg5, -, hD⟩ := h7 (dd 7 (by decide))
    obtain ⟨b6, rfl, hg6, -, hE⟩ := h8 (dd 8 (by decide))
    have n56 : b5 ≠ b6 := fun e => hne (dd 7 (by decide)) (dd 8 (by decide)) (by rw [e])
    replace hD := hD (dd 9 (by decide))
    replace hE := hE (dd 10 (by decide))
    clear h0 h1 h2 h3 h4 h5 h6 h7 h8 hne g10 g11 hl dd
    simp only [Act.put, List.setIfInBounds_toArray, List.set_cons_zero, List.set_cons_succ]
    have HS : Hid (SvS W w b5 b6 #[.int .i64 (op : Int), .int .i64 (rd : Int), .int .i64 (r1 : Int), .int .i64 (r2 : Int), .int .i64 n] #[.int .u64 cb, .int .u64 ct, .int .u64 (an : Int), .int .i64 cp, .int .i64 cy, .bool cg] #[.int .u64 vb, .int .u64 vt, .int .u64 va, .int .i64 vp, .int .i64 vy, .bool vg]) := Lib.hid ⟨HB.out.trans (hb.mono HB.out.size), boxN_below HX.out hb, hD, hE, by have := HS0.out; omega, by have := HS0.out; omega⟩
    clear hb hD hE n56 hg5 hg6 HSX HC1 HC2 HB HX HS0
    have x0 : w.cell? ⟨W.heap.size, 0, none⟩ = some (.int .i64 (op : Int)) := HS.out.x.cell 0
    go_wp2_with fail
    refine (HWD.out _ HS.out.b).mono ?_; rintro e w2 ⟨rfl, rfl⟩
    clear HWD x0
    obtain ⟨⟨d0, d1, d2, d3, d4, d5⟩, -⟩ := boxN6 HS.out.d
    obtain ⟨⟨e0, e1, e2, e3, e4, e5⟩, -⟩ := boxN6 HS.out.e
    cases HCS.out with
    | cap h0 h1 =>
      subst h0
      have HSC := Lib.hid (fun w (hb : Below W.heap.size W w) => savecap_any w N A M F s (HM.out.below hb) ⟨cb, ct, (an : Int), cp, cy, cg⟩ ⟨vb, vt, va, vp, vy, vg⟩ HFC.out HFV.out)
      rw [h1] at HSC
      unfold capC at HSC
      simp only [] at HSC
      clear h1
      go_wp2_with fail
      refine (HSC.out _ HS.out.b).mono ?_; rintro e w3 ⟨rfl, F', hq, hm⟩
      have HR := Lib.hid (And.intro hq ((McMv.of_below F A HS.out.b).trans hm HM.out.mc.lt))
      clear hq hm HSC HS d0 d1 d2 d3 d4 d5 e0 e1 e2 e3 e4 e5
      go_wp2_with fail
      go_ret
      exact ⟨rfl, F', HR.out⟩
    | bad h0 h1 h2 h3 =>
      subst h0
      have hn0 := HWI.out.1
      have hn8 := HWI.out.2
      have HCK := Lib.hid (fun w => ccheck_any ⟨cb, ct, (an : Int), cp, cy, cg⟩ HFC.out nn 2 hn0 w)
      rw [h1] at HCK
      unfold capC at HCK
      simp only [] at HCK
      have hwn : IntKind.u64.wrap nn = nn := by rw [IntKind.wrap_u64]; omega
      clear hn0 hn8 h1
      have q1 : (er == 0) = false := by simpa using h2
      have q2 : (er != 0) = true := by simpa using h2
      subst h3
      clear h2
      go_wp2_with fail
      refine (HCK.out _).mono ?_; rintro e w3 ⟨rfl, hb3⟩
      have HS' := Lib.hid (HS.out.below hb3)
      clear HS hb3 HCK d0 d1 d2 d3 d4 d5 e0 e1 e2 e3 e4 e5
      have HS := HS'
      clear HS'
      go_wp2_with fail
      go_ret
      exact ⟨rfl, F, HM.out.below HS.out.b, McMv.of_below F A HS.out.b⟩
    | go h0 h1 h2 =>
      subst h0
      have hn0 := HWI.out.1
      have hn8 := HWI.out.2
      have HCK := Lib.hid (fun w => ccheck_any ⟨cb, ct, (an : Int), cp, cy, cg⟩ HFC.out nn 2 hn0 w)
      rw [h1] at HCK
      unfold capC at HCK
      simp only [] at HCK
      have hwn : IntKind.u64.wrap nn = nn := by rw [IntKind.wrap_u64]; omega
      clear hn0 hn8 h1
      have hal : an < 18446744073709551616 := by have := HFC.out.a1; simp only [] at this; omega
      have HST := Lib.hid (fun w (hb : Below W.heap.size W w) => sstore_any w N M F s.m (HM.out.own.below hb) an nn va hal HFV.out.a0 HFV.out.a1)
      simp only [] at h2
      rw [h2] at HST
      simp only [] at HST
      clear hal h2
      go_wp2_with fail
      refine (HCK.out _).mono ?_; rintro e w3 ⟨rfl, hb3⟩
      have HS' := Lib.hid (HS.out.below hb3)
      clear HS hb3 HCK d0 d1 d2 d3 d4 d5 e0 e1 e2 e3 e4 e5
      have HS := HS'
      clear HS'
      have HSX := Lib.hid (fun (w : World) (hb : Below w3.heap.size w3 w) => (show w.cell? ⟨A, 198, none⟩ = some (.pointer (some ⟨M, 0, none⟩)) ∧ w.cell? ⟨b5, 2, none⟩ = some (.int .u64 (an : Int)) ∧ w.cell? ⟨b6, 2, none⟩ = some (.int .u64 va) from ⟨((HM.out.below HS.out.b).below hb).mc.mem, (HS.out.below hb).d.cell 2, (HS.out.below hb).e.cell 2⟩))
      have HN0 := Lib.hid (Below.refl w3.heap.size w3)
      have HB1 := Lib.hid HS.out.b
      go_upto_region 8 with fail
      go_region_held3 (fun W1 => W1.cell? ⟨A, 198, none⟩ = some (.pointer (some ⟨M, 0, none⟩)) ∧ W1.cell? ⟨b5, 2, none⟩ = some (.int .u64 (an : Int)) ∧ W1.cell? ⟨b6, 2, none⟩ = some (.int .u64 va))
        (first | with_reducible exact HS5.out | exact HSX.out _ (by first | ((repeat (first | with_reducible exact HN0.out | with_reducible refine Below.drew ?_)); done) | fail))
        (first | (go_at_call 34; refine (HST.out _ (by first | exact HB1.out | exact Below.drew HB1.out)).mono ?_; rintro e W5 ⟨rfl, F', ho, hm⟩; have HR5 := Lib.hid (sc_end (W := W) (w1 := w3) HM.out HB1.out ho (by first | exact hm | exact mv_undrew hm)); have HS5 := Lib.hid (sv_keep (va := .int .u64 (an : Int)) (vb := .int .u64 va) HM.out HS.out rfl rfl ho (by first | exact hm | exact mv_undrew hm)); clear ho hm))
      go_wp2_with fail
      go_ret
      exact ⟨rfl, F', HR5.out⟩
theorem save_any (W : World) (N A M : Nat) (F : Nat → Prop) (s : Mch) (h : McS W N A M F s) (nt : Is.NT W) (x : Ins) (h1 : x.r1 < 32) (h2 : x.r2 < 32) :
    Calls Tryz.prog 94 #[.pointer (some ⟨A, 0, none⟩), .agg (insV x)] W fun e w' => e = .returned (.int .i64 (saveP s.m x.op (placeP x s.rs) (regP s.rs x.r2)).2) ∧ ∃ F', McS w' N A M F' ⟨s.pc, s.rs, (saveP s.m x.op (placeP x s.rs) (regP s.rs x.r2)).1⟩ ∧ McMv W w' F F' A := by
  obtain ⟨op, rd, r1, r2, n⟩ := x
  simp only [] at h1 h2
  have ge := regP_fit h.frs r2
  have gp : FitC (placeP ⟨op, rd, r1, r2, n⟩ s.rs) := by
    obtain ⟨q1, q2, q3, q4, q5, q6⟩ := regP_fit h.frs r1
    unfold placeP
    simp only []
    exact ⟨q1, q2, q3, q4, by rw [IntKind.wrap_u64]; simp only []; omega, by rw [IntKind.wrap_u64]; simp only []; omega⟩
  obtain ⟨⟨cb, ct, ca, cp, cy, cg⟩, hpl⟩ : ∃ d, placeP ⟨op, rd, r1, r2, n⟩ s.rs = d := ⟨_, rfl⟩
  obtain ⟨⟨vb, vt, va, vp, vy, vg⟩, hf⟩ : ∃ d, regP s.rs r2 = d := ⟨_, rfl⟩
  unfold insV
  simp only []
  rw [hpl] at gp ⊢
  rw [hf] at ge ⊢
  obtain ⟨an, rfl⟩ : ∃ an : Nat, ca = (an : Int) := ⟨ca.toNat, by have := gp.a0; simp only [] at this; omega⟩
  have e0 : ((an : Int)).toNat = an := by omega
  obtain ⟨⟨nn, sg, ok⟩, hw⟩ : ∃ q, Al.widthZ (opN (op : Int)) = q := ⟨_, rfl⟩
  obtain ⟨⟨m1, er⟩, hsp⟩ : ∃ q, saveP s.m op ⟨cb, ct, (an : Int), cp, cy, cg⟩ ⟨vb, vt, va, vp, vy, vg⟩ = q := ⟨_, rfl⟩
  rw [hsp]
  refine save_all W N A M F s h nt op rd r1 r2 n h1 h2 an cb ct cp cy cg hpl vb vt va vp vy vg hf gp ge nn sg ok hw m1 er ?_
  unfold saveP at hsp
  simp only [e0] at hsp
  rw [hw] at hsp
  simp only [] at hsp
  cases ok with
  | false =>
    rw [if_neg (by decide)] at hsp
    exact .cap rfl hsp
  | true =>
    rw [if_pos rfl] at hsp
    by_cases hx : checkP ⟨cb, ct, (an : Int), cp, cy, cg⟩ nn 2 = 0
    · rw [if_neg (by simpa using hx)] at hsp
      exact .go rfl hx hsp
    · rw [if_pos (by simpa using hx)] at hsp
      cases hsp
      exact .bad rfl rfl hx rfl
end Go.Proofs.YtegoddghfjfibaaGreatDoor

