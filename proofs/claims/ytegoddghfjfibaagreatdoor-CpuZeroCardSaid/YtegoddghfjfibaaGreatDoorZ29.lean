/- CuM -/
import Derived.Test.YtegoddghfjfibaaGreatDoorZ28
import Derived.Test.YtegoddghfjfibaaGreatDoorZ27
namespace Go.Proofs.YtegoddghfjfibaaGreatDoor
set_option linter.unusedVariables false
set_option linter.unusedSimpArgs false
open Go.Joins Go.ChangeShapes Go.WideShapes Go.ChangeAt Go.RowKit Go.Deep

/-- what stands, whatever has come up: two calls done, two boxes made and filled -/
abbrev RkT (W0 : World) (A X r1 r2 : Nat) (D E : Array Value) (A0 : Act) (d : Nat → Bool) (a : Act) (w : World) : Prop :=
  ∃ v5 v6 v10 v11 v12 v13 v14 v15 v16 v17 : Value, a = ((((((((((A0.put (some 5) v5).put (some 6) v6).put (some 10) v10).put (some 11) v11).put (some 12) v12).put (some 13) v13).put (some 14) v14).put (some 15) v15).put (some 16) v16).put (some 17) v17) ∧ Below W0.heap.size W0 w ∧
    (d 0 = true → v10 = .pointer (some ⟨A, 0, none⟩)) ∧
    (d 1 = true → v11 = .pointer (some ⟨X, 2, none⟩)) ∧
    (d 2 = true → v12 = .int .i64 (r1 : Int)) ∧
    (d 3 = true → v13 = .agg D) ∧
    (d 4 = true → v14 = .pointer (some ⟨A, 0, none⟩)) ∧
    (d 5 = true → v15 = .pointer (some ⟨X, 3, none⟩)) ∧
    (d 6 = true → v16 = .int .i64 (r2 : Int)) ∧
    (d 7 = true → v17 = .agg E) ∧
    (d 8 = true → ∃ b, v5 = .pointer (some ⟨b, 0, none⟩) ∧ W0.heap.size ≤ b ∧ Bx6 w b ∧ (d 10 = true → BoxN w b D)) ∧
    (d 9 = true → ∃ b, v6 = .pointer (some ⟨b, 0, none⟩) ∧ W0.heap.size ≤ b ∧ Bx6 w b ∧ (d 11 = true → BoxN w b E)) ∧
    (d 8 = true → d 9 = true → v5 ≠ v6) ∧ (d 10 = true → d 8 = true) ∧ (d 11 = true → d 9 = true)
/-- which value comes -/
inductive RkC (op : Nat) (kk : Int) (nmv : List UInt8) (n db dt da dp dy : Int) (dg : Bool) (fb ft fa fp fy : Int) (fg : Bool) (v : Cp) : Prop where
  | c0 (h0 : 1 ≤ op) (h1 : op ≤ 41) (h2 : (kk == 2) = true) (hv : intP (Al.reckZ op da (IntKind.u64.wrap n)) = v)
  | c1 (h0 : 1 ≤ op) (h1 : op ≤ 41) (h2 : (kk == 2) = false) (hv : intP (Al.reckZ op da fa) = v)
  | c2 (h0 : 41 < op) (h1 : (kk == 2) = false) (h2 : (nmv == [99, 115, 101, 116, 98, 111, 117, 110, 100, 115]) = true) (hv : boundP ⟨db, dt, da, dp, dy, dg⟩ fa = v)
  | c3 (h0 : 41 < op) (h1 : (kk == 2) = false) (h2 : (nmv == [99, 115, 101, 116, 98, 111, 117, 110, 100, 115]) = false) (h3 : (nmv == [99, 97, 110, 100, 112, 101, 114, 109]) = true) (hv : andP ⟨db, dt, da, dp, dy, dg⟩ (fa % 256) = v)
  | c4 (h0 : 41 < op) (h1 : (kk == 2) = false) (h2 : (nmv == [99, 115, 101, 116, 98, 111, 117, 110, 100, 115]) = false) (h3 : (nmv == [99, 97, 110, 100, 112, 101, 114, 109]) = false) (h4 : (nmv == [99, 115, 101, 97, 108]) = true) (hv : sealP ⟨db, dt, da, dp, dy, dg⟩ ⟨fb, ft, fa, fp, fy, fg⟩ = v)
  | c5 (h0 : 41 < op) (h1 : (kk == 2) = false) (h2 : (nmv == [99, 115, 101, 116, 98, 111, 117, 110, 100, 115]) = false) (h3 : (nmv == [99, 97, 110, 100, 112, 101, 114, 109]) = false) (h4 : (nmv == [99, 115, 101, 97, 108]) = false) (h5 : (nmv == [99, 117, 110, 115, 101, 97, 108]) = true) (hv : unsealP ⟨db, dt, da, dp, dy, dg⟩ ⟨fb, ft, fa, fp, fy, fg⟩ = v)
  | c6 (h0 : 41 < op) (h1 : (kk == 2) = false) (h2 : (nmv == [99, 115, 101, 116, 98, 111, 117, 110, 100, 115]) = false) (h3 : (nmv == [99, 97, 110, 100, 112, 101, 114, 109]) = false) (h4 : (nmv == [99, 115, 101, 97, 108]) = false) (h5 : (nmv == [99, 117, 110, 115, 101, 97, 108]) = false) (h6 : (nmv == [99, 115, 101, 116, 97, 100, 100, 114]) = true) (hv : moveP ⟨db, dt, da, dp, dy, dg⟩ fa = v)
  | c7 (h0 : 41 < op) (h1 : (kk == 2) = false) (h2 : (nmv == [99, 115, 101, 116, 98, 111, 117, 110, 100, 115]) = false) (h3 : (nmv == [99, 97, 110, 100, 112, 101, 114, 109]) = false) (h4 : (nmv == [99, 115, 101, 97, 108]) = false) (h5 : (nmv == [99, 117, 110, 115, 101, 97, 108]) = false) (h6 : (nmv == [99, 115, 101, 116, 97, 100, 100, 114]) = false) (h7 : (nmv == [99, 105, 110, 99, 97, 100, 100, 114]) = true) (hv : moveP ⟨db, dt, da, dp, dy, dg⟩ (IntKind.u64.wrap (da + fa)) = v)
  | c8 (h0 : 41 < op) (h1 : (kk == 2) = false) (h2 : (nmv == [99, 115, 101, 116, 98, 111, 117, 110, 100, 115]) = false) (h3 : (nmv == [99, 97, 110, 100, 112, 101, 114, 109]) = false) (h4 : (nmv == [99, 115, 101, 97, 108]) = false) (h5 : (nmv == [99, 117, 110, 115, 101, 97, 108]) = false) (h6 : (nmv == [99, 115, 101, 116, 97, 100, 100, 114]) = false) (h7 : (nmv == [99, 105, 110, 99, 97, 100, 100, 114]) = false) (hv : flagP (dg == fg && withinP ⟨fb, ft, fa, fp, fy, fg⟩ ⟨db, dt, da, dp, dy, dg⟩) = v)
set_option maxHeartbeats 32000000 in
theorem reckon_all (W : World) (A M : Nat) (pc : Cp) (rs : List Cp) (h : McAt W A M pc rs) (nt : Is.NT W) (op rd r1 r2 : Nat) (n : Int) (h1 : r1 < 32) (h2 : r2 < 32) (db dt da dp dy : Int) (dg : Bool) (hd : regP rs r1 = ⟨db, dt, da, dp, dy, dg⟩) (fb ft fa fp fy : Int) (fg : Bool) (hf : regP rs r2 = ⟨fb, ft, fa, fp, fy, fg⟩) (gd : FitC ⟨db, dt, da, dp, dy, dg⟩) (ge : FitC ⟨fb, ft, fa, fp, fy, fg⟩) (vb vt va vp vy : Int) (vg : Bool) (hc : RkC op (Is.kindO (op : Int)) (opN (op : Int)) n db dt da dp dy dg fb ft fa fp fy fg ⟨vb, vt, va, vp, vy, vg⟩) :
    Calls Tryz.prog 91 #[.pointer (some ⟨A, 0, none⟩), .agg #[.int .i64 (op : Int), .int .i64 (rd : Int), .int .i64 (r1 : Int), .int .i64 (r2 : Int), .int .i64 n]] W fun e w' => e = .returned (.agg #[.int .u64 vb, .int .u64 vt, .int .u64 va, .int .i64 vp, .int .i64 vy, .bool vg]) ∧ Below W.heap.size W w' := by
  have HKD := Lib.hid (fun w (hb : Below W.heap.size W w) => Is.kind_any (op : Int) w (nt.on hb))
  obtain ⟨kk, hkk⟩ : ∃ k, Is.kindO (op : Int) = k := ⟨_, rfl⟩
  rw [hkk] at HKD hc
  have HNM := Lib.hid (fun w (hb : Below W.heap.size W w) => Is.name_any (op : Int) w (nt.on hb))
  obtain ⟨nmv, hnm⟩ : ∃ s, opN (op : Int) = s := ⟨_, rfl⟩
  rw [hnm] at HNM hc
  clear hnm hkk
  have HC := Lib.hid hc
  have HGD := Lib.hid gd
  have HGE := Lib.hid ge
  obtain ⟨b1, b2, b3, b4⟩ := boxes2 W #[.int .i64 (op : Int), .int .i64 (rd : Int), .int .i64 (r1 : Int), .int .i64 (r2 : Int), .int .i64 n] zer6 61 24
  obtain ⟨W0, hW0⟩ : ∃ W0, (W.alloc (.cells #[.int .i64 (op : Int), .int .i64 (rd : Int), .int .i64 (r1 : Int), .int .i64 (r2 : Int), .int .i64 n] 61)).alloc (.cells zer6 24) = W0 := ⟨_, rfl⟩
  rw [hW0] at b1 b2 b3 b4
  have C1 := fun w (hb : Below W0.heap.size W0 w) => mread_any w A M pc rs ((h.below b1).below hb) r1 h1
  have C2 := fun w (hb : Below W0.heap.size W0 w) => mread_any w A M pc rs ((h.below b1).below hb) r2 h2
  rw [hd] at C1
  rw [hf] at C2
  unfold capC at C1 C2
  simp only [] at C1 C2
  have HC1 := Lib.hid C1
  have HC2 := Lib.hid C2
  have HW0 := Lib.hid hW0
  have HB := Lib.hid b1
  have HX := Lib.hid b2
  have HZ := Lib.hid b3
  have HS0 := Lib.hid b4
  have HSX := Lib.hid (fun (w : World) (hb : Below W0.heap.size W0 w) => (show w.cell? ⟨W.heap.size, 2, none⟩ = some (.int .i64 (r1 : Int)) ∧ w.cell? ⟨W.heap.size, 3, none⟩ = some (.int .i64 (r2 : Int)) from ⟨(boxN_below b2 hb).cell 2, (boxN_below b2 hb).cell 3⟩))
  clear hW0 b1 b2 b3 b4 h nt hd hf C1 C2 gd ge hc
  go_enter Tryz.func91, Tryz.ntmps91
  go_upto_region 1 with fail
  (try rw [HW0.out])
  clear HW0
  refine wp_region_invA (by kernel_rfl) (by kernel_rfl) (RkT W0 A W.heap.size r1 r2 #[.int .u64 db, .int .u64 dt, .int .u64 da, .int .i64 dp, .int .i64 dy, .bool dg] #[.int .u64 fb, .int .u64 ft, .int .u64 fa, .int .i64 fp, .int .i64 fy, .bool fg]) ?_ (Steps.cons ?_ (Steps.cons ?_ (Steps.cons ?_ (Steps.cons ?_ (Steps.cons ?_ (Steps.cons ?_ (Steps.cons ?_ (Steps.cons ?_ (Steps.cons ?_ (Steps.cons ?_ (Steps.cons ?_ (Steps.cons ?_ (Steps.nil))))))))))))) ?_
  · exact ⟨_, _, _, _, _, _, _, _, _, _, (by simp only [Act.put, List.setIfInBounds_toArray, List.set_cons_zero, List.set_cons_succ]; rfl), Below.drew (Below.refl _ _), fun h => (by cases h), fun h => (by cases h), fun h => (by cases h), fun h => (by cases h), fun h => (by cases h), fun h => (by cases h), fun h => (by cases h), fun h => (by cases h), fun h => (by cases h), fun h => (by cases h), fun h => (by cases h), fun h => (by cases h), fun h => (by cases h)⟩
  · rintro d a w hd hall ⟨v5, v6, v10, v11, v12, v13, v14, v15, v16, v17, rfl, hb, h0, h1, h2, h3, h4, h5, h6, h7, h8, h9, hne, g10, g11⟩ K' hK
    clear hall
    simp only [Act.put, List.setIfInBounds_toArray, List.set_cons_zero, List.set_cons_succ]
    go_simp
    exact hK.out _ _ ⟨v5, v6, .pointer (some ⟨A, 0, none⟩), v11, v12, v13, v14, v15, v16, v17, (by simp only [Act.put, List.setIfInBounds_toArray, List.set_cons_zero, List.set_cons_succ]), hb, fun _ => rfl, fun h => h1 (dn h rfl), fun h => h2 (dn h rfl), fun h => h3 (dn h rfl), fun h => h4 (dn h rfl), fun h => h5 (dn h rfl), fun h => h6 (dn h rfl), fun h => h7 (dn h rfl), fun h => (by obtain ⟨b, q1, q2, q3, q4⟩ := h8 (dn h rfl); exact ⟨b, q1, q2, q3, fun h => q4 (dn h rfl)⟩), fun h => (by obtain ⟨b, q1, q2, q3, q4⟩ := h9 (dn h rfl); exact ⟨b, q1, q2, q3, fun h => q4 (dn h rfl)⟩), fun h k => hne (dn h rfl) (dn k rfl), fun h => (by show (_ || _) = true; rw [g10 (dn h rfl)]; rfl), fun h => (by show (_ || _) = true; rw [g11 (dn h rfl)]; rfl)⟩
  · rintro d a w hd hall ⟨v5, v6, v10, v11, v12, v13, v14, v15, v16, v17, rfl, hb, h0, h1, h2, h3, h4, h5, h6, h7, h8, h9, hne, g10, g11⟩ K' hK
    clear hall
    simp only [Act.put, List.setIfInBounds_toArray, List.set_cons_zero, List.set_cons_succ]
    go_simp
    exact hK.out _ _ ⟨v5, v6, v10, .pointer (some ⟨W.heap.size, 2, none⟩), v12, v13, v14, v15, v16, v17, (by simp only [Act.put, List.setIfInBounds_toArray, List.set_cons_zero, List.set_cons_succ]), hb, fun h => h0 (dn h rfl), fun _ => rfl, fun h => h2 (dn h rfl), fun h => h3 (dn h rfl), fun h => h4 (dn h rfl), fun h => h5 (dn h rfl), fun h => h6 (dn h rfl), fun h => h7 (dn h rfl), fun h => (by obtain ⟨b, q1, q2, q3, q4⟩ := h8 (dn h rfl); exact ⟨b, q1, q2, q3, fun h => q4 (dn h rfl)⟩), fun h => (by obtain ⟨b, q1, q2, q3, q4⟩ := h9 (dn h rfl); exact ⟨b, q1, q2, q3, fun h => q4 (dn h rfl)⟩), fun h k => hne (dn h rfl) (dn k rfl), fun h => (by show (_ || _) = true; rw [g10 (dn h rfl)]; rfl), fun h => (by show (_ || _) = true; rw [g11 (dn h rfl)]; rfl)⟩
  · rintro d a w hd hall ⟨v5, v6, v10, v11, v12, v13, v14, v15, v16, v17, rfl, hb, h0, h1, h2, h3, h4, h5, h6, h7, h8, h9, hne, g10, g11⟩ K' hK
    have e1 : d 1 = true := hall ⟨1, .data⟩ (by simp) rfl
    clear hall
    obtain rfl := h1 e1
    simp only [Act.put, List.setIfInBounds_toArray, List.set_cons_zero, List.set_cons_succ]
    have xx := HSX.out w hb
    have x2 := xx.1; clear xx
    go_simp
    exact hK.out _ _ ⟨v5, v6, v10, .pointer (some ⟨W.heap.size, 2, none⟩), .int .i64 (r1 : Int), v13, v14, v15, v16, v17, (by simp only [Act.put, List.setIfInBounds_toArray, List.set_cons_zero, List.set_cons_succ]), hb, fun h => h0 (dn h rfl), fun _ => rfl, fun _ => rfl, fun h => h3 (dn h rfl), fun h => h4 (dn h rfl), fun h => h5 (dn h rfl), fun h => h6 (dn h rfl), fun h => h7 (dn h rfl), fun h => (by obtain ⟨b, q1, q2, q3, q4⟩ := h8 (dn h rfl); exact ⟨b, q1, q2, q3, fun h => q4 (dn h rfl)⟩), fun h => (by obtain ⟨b, q1, q2, q3, q4⟩ := h9 (dn h rfl); exact ⟨b, q1, q2, q3, fun h => q4 (dn h rfl)⟩), fun h k => hne (dn h rfl) (dn k rfl), fun h => (by show (_ || _) = true; rw [g10 (dn h rfl)]; rfl), fun h => (by show (_ || _) = true; rw [g11 (dn h rfl)]; rfl)⟩
  · rintro d a w hd hall ⟨v5, v6, v10, v11, v12, v13, v14, v15, v16, v17, rfl, hb, h0, h1, h2, h3, h4, h5, h6, h7, h8, h9, hne, g10, g11⟩ K' hK
    have e0 : d 0 = true := hall ⟨0, .data⟩ (by simp) rfl
    have e2 : d 2 = true := hall ⟨2, .data⟩ (by simp) rfl
    clear hall
    obtain rfl := h0 e0
    obtain rfl := h2 e2
    simp only [Act.put, List.setIfInBounds_toArray, List.set_cons_zero, List.set_cons_succ]
    go_simp
    go_at_call 96
    refine (HC1.out w hb).mono ?_; rintro e w5 ⟨rfl, hl⟩
    have hb5 := hb.trans (hl.mono hb.size)
    simp only []
    go_simp
    exact hK.out _ _ ⟨v5, v6, .pointer (some ⟨A, 0, none⟩), v11, .int .i64 (r1 : Int), .agg #[.int .u64 db, .int .u64 dt, .int .u64 da, .int .i64 dp, .int .i64 dy, .bool dg], v14, v15, v16, v17, (by simp only [Act.put, List.setIfInBounds_toArray, List.set_cons_zero, List.set_cons_succ]), hb5, fun _ => rfl, fun h => h1 (dn h rfl), fun _ => rfl, fun _ => rfl, fun h => h4 (dn h rfl), fun h => h5 (dn h rfl), fun h => h6 (dn h rfl), fun h => h7 (dn h rfl), fun h => (by obtain ⟨b, q1, q2, q3, q4⟩ := h8 (dn h rfl); exact ⟨b, q1, q2, q3.below hl, fun h => boxN_below (q4 (dn h rfl)) hl⟩), fun h => (by obtain ⟨b, q1, q2, q3, q4⟩ := h9 (dn h rfl); exact ⟨b, q1, q2, q3.below hl, fun h => boxN_below (q4 (dn h rfl)) hl⟩), fun h k => hne (dn h rfl) (dn k rfl), fun h => (by show (_ || _) = true; rw [g10 (dn h rfl)]; rfl), fun h => (by show (_ || _) = true; rw [g11 (dn h rfl)]; rfl)⟩
  · rintro d a w hd hall ⟨v5, v6, v10, v11, v12, v13, v14, v15, v16, v17, rfl, hb, h0, h1, h2, h3, h4, h5, h6, h7, h8, h9, hne, g10, g11⟩ K' hK
    clear hall
    simp only [Act.put, List.setIfInBounds_toArray, List.set_cons_zero, List.set_cons_succ]
    go_simp
    exact hK.out _ _ ⟨v5, v6, v10, v11, v12, v13, .pointer (some ⟨A, 0, none⟩), v15, v16, v17, (by simp only [Act.put, List.setIfInBounds_toArray, List.set_cons_zero, List.set_cons_succ]), hb, fun h => h0 (dn h rfl), fun h => h1 (dn h rfl), fun h => h2 (dn h rfl), fun h => h3 (dn h rfl), fun _ => rfl, fun h => h5 (dn h rfl), fun h => h6 (dn h rfl), fun h => h7 (dn h rfl), fun h => (by obtain ⟨b, q1, q2, q3, q4⟩ := h8 (dn h rfl); exact ⟨b, q1, q2, q3, fun h => q4 (dn h rfl)⟩), fun h => (by obtain ⟨b, q1, q2, q3, q4⟩ := h9 (dn h rfl); exact ⟨b, q1, q2, q3, fun h => q4 (dn h rfl)⟩), fun h k => hne (dn h rfl) (dn k rfl), fun h => (by show (_ || _) = true; rw [g10 (dn h rfl)]; rfl), fun h => (by show (_ || _) = true; rw [g11 (dn h rfl)]; rfl)⟩
  · rintro d a w hd hall ⟨v5, v6, v10, v11, v12, v13, v14, v15, v16, v17, rfl, hb, h0, h1, h2, h3, h4, h5, h6, h7, h8, h9, hne, g10, g11⟩ K' hK
    clear hall
    simp only [Act.put, List.setIfInBounds_toArray, List.set_cons_zero, List.set_cons_succ]
    go_simp
    exact hK.out _ _ ⟨v5, v6, v10, v11, v12, v13, v14, .pointer (some ⟨W.heap.size, 3, none⟩), v16, v17, (by simp only [Act.put, List.setIfInBounds_toArray, List.set_cons_zero, List.set_cons_succ]), hb, fun h => h0 (dn h rfl), fun h => h1 (dn h rfl), fun h => h2 (dn h rfl), fun h => h3 (dn h rfl), fun h => h4 (dn h rfl), fun _ => rfl, fun h => h6 (dn h rfl), fun h => h7 (dn h rfl), fun h => (by obtain ⟨b, q1, q2, q3, q4⟩ := h8 (dn h rfl); exact ⟨b, q1, q2, q3, fun h => q4 (dn h rfl)⟩), fun h => (by obtain ⟨b, q1, q2, q3, q4⟩ := h9 (dn h rfl); exact ⟨b, q1, q2, q3, fun h => q4 (dn h rfl)⟩), fun h k => hne (dn h rfl) (dn k rfl), fun h => (by show (_ || _) = true; rw [g10 (dn h rfl)]; rfl), fun h => (by show (_ || _) = true; rw [g11 (dn h rfl)]; rfl)⟩
  · rintro d a w hd hall ⟨v5, v6, v10, v11, v12, v13, v14, v15, v16, v17, rfl, hb, h0, h1, h2, h3, h4, h5, h6, h7, h8, h9, hne, g10, g11⟩ K' hK
    have e5 : d 5 = true := hall ⟨5, .data⟩ (by simp) rfl
    clear hall
    obtain rfl := h5 e5
    simp only [Act.put, List.setIfInBounds_toArray, List.set_cons_zero, List.set_cons_succ]
    have xx := HSX.out w hb
    have x2 := xx.2; clear xx
    go_simp
    exact hK.out _ _ ⟨v5, v6, v10, v11, v12, v13, v14, .pointer (some ⟨W.heap.size, 3, none⟩), .int .i64 (r2 : Int), v17, (by simp only [Act.put, List.setIfInBounds_toArray, List.set_cons_zero, List.set_cons_succ]), hb, fun h => h0 (dn h rfl), fun h => h1 (dn h rfl), fun h => h2 (dn h rfl), fun h => h3 (dn h rfl), fun h => h4 (dn h rfl), fun _ => rfl, fun _ => rfl, fun h => h7 (dn h rfl), fun h => (by obtain ⟨b, q1, q2, q3, q4⟩ := h8 (dn h rfl); exact ⟨b, q1, q2, q3, fun h => q4 (dn h rfl)⟩), fun h => (by obtain ⟨b, q1, q2, q3, q4⟩ := h9 (dn h rfl); exact ⟨b, q1, q2, q3, fun h => q4 (dn h rfl)⟩), fun h k => hne (dn h rfl) (dn k rfl), fun h => (by show (_ || _) = true; rw [g10 (dn h rfl)]; rfl), fun h => (by show (_ || _) = true; rw [g11 (dn h rfl)]; rfl)⟩
  · rintro d a w hd hall ⟨v5, v6, v10, v11, v12, v13, v14, v15, v16, v17, rfl, hb, h0, h1, h2, h3, h4, h5, h6, h7, h8, h9, hne, g10, g11⟩ K' hK
    have e4 : d 4 = true := hall ⟨4, .data⟩ (by simp) rfl
    have e6 : d 6 = true := hall ⟨6, .data⟩ (by simp) rfl
    clear hall
    obtain rfl := h4 e4
    obtain rfl := h6 e6
    simp only [Act.put, List.setIfInBounds_toArray, List.set_cons_zero, List.set_cons_succ]
    go_simp
    go_at_call 96
    refine (HC2.out w hb).mono ?_; rintro e w5 ⟨rfl, hl⟩
    have hb5 := hb.trans (hl.mono hb.size)
    simp only []
    go_simp
    exact hK.out _ _ ⟨v5, v6, v10, v11, v12, v13, .pointer (some ⟨A, 0, none⟩), v15, .int .i64 (r2 : Int), .agg #[.int .u64 fb, .int .u64 ft, .int .u64 fa, .int .i64 fp, .int .i64 fy, .bool fg], (by simp only [Act.put, List.setIfInBounds_toArray, List.set_cons_zero, List.set_cons_succ]), hb5, fun h => h0 (dn h rfl), fun h => h1 (dn h rfl), fun h => h2 (dn h rfl), fun h => h3 (dn h rfl), fun _ => rfl, fun h => h5 (dn h rfl), fun _ => rfl, fun _ => rfl, fun h => (by obtain ⟨b, q1, q2, q3, q4⟩ := h8 (dn h rfl); exact ⟨b, q1, q2, q3.below hl, fun h => boxN_below (q4 (dn h rfl)) hl⟩), fun h => (by obtain ⟨b, q1, q2, q3, q4⟩ := h9 (dn h rfl); exact ⟨b, q1, q2, q3.below hl, fun h => boxN_below (q4 (dn h rfl)) hl⟩), fun h k => hne (dn h rfl) (dn k rfl), fun h => (by show (_ || _) = true; rw [g10 (dn h rfl)]; rfl), fun h => (by show (_ || _) = true; rw [g11 (dn h rfl)]; rfl)⟩
  · rintro d a w hd hall ⟨v5, v6, v10, v11, v12, v13, v14, v15, v16, v17, rfl, hb, h0, h1, h2, h3, h4, h5, h6, h7, h8, h9, hne, g10, g11⟩ K' hK
    clear hall
    simp only [Act.put, List.setIfInBounds_toArray, List.set_cons_zero, List.set_cons_succ]
    go_simp
    have hl : Below w.heap.size w (w.alloc (.cells #[.int .u64 0, .int .u64 0, .int .u64 0, .int .i64 0, .int .i64 0, .bool false] 24)) := bAlloc (Below.refl _ _) _
    exact hK.out _ _ ⟨.pointer (some ⟨w.heap.size, 0, none⟩), v6, v10, v11, v12, v13, v14, v15, v16, v17, (by simp only [Act.put, List.setIfInBounds_toArray, List.set_cons_zero, List.set_cons_succ]), hb.trans (hl.mono hb.size), fun h => h0 (dn h rfl), fun h => h1 (dn h rfl), fun h => h2 (dn h rfl), fun h => h3 (dn h rfl), fun h => h4 (dn h rfl), fun h => h5 (dn h rfl), fun h => h6 (dn h rfl), fun h => h7 (dn h rfl), fun _ => ⟨w.heap.size, rfl, hb.size, ⟨_, _, _, _, _, _, BoxN.new w #[.int .u64 0, .int .u64 0, .int .u64 0, .int .i64 0, .int .i64 0, .bool false] 24⟩, fun h => absurd (g10 (dn h rfl)) (by rw [hd]; decide)⟩, fun h => (by obtain ⟨b, q1, q2, q3, q4⟩ := h9 (dn h rfl); exact ⟨b, q1, q2, q3.below hl, fun h => boxN_below (q4 (dn h rfl)) hl⟩), fun h k e => (by obtain ⟨b, q1, q2, q3, q4⟩ := h9 (dn k rfl); rw [q1] at e; cases e; have := q3.lt; omega), fun h => (by show (_ || _) = true; rw [g10 (dn h rfl)]; rfl), fun h => (by show (_ || _) = true; rw [g11 (dn h rfl)]; rfl)⟩
  · rintro d a w hd hall ⟨v5, v6, v10, v11, v12, v13, v14, v15, v16, v17, rfl, hb, h0, h1, h2, h3, h4, h5, h6, h7, h8, h9, hne, g10, g11⟩ K' hK
    clear hall
    simp only [Act.put, List.setIfInBounds_toArray, List.set_cons_zero, List.set_cons_succ]
    go_simp
    have hl : Below w.heap.size w (w.alloc (.cells #[.int .u64 0, .int .u64 0, .int .u64 0, .int .i64 0, .int .i64 0, .bool false] 24)) := bAlloc (Below.refl _ _) _
    exact hK.out _ _ ⟨v5, .pointer (some ⟨w.heap.size, 0, none⟩), v10, v11, v12, v13, v14, v15, v16, v17, (by simp only [Act.put, List.setIfInBounds_toArray, List.set_cons_zero, List.set_cons_succ]), hb.trans (hl.mono hb.size), fun h => h0 (dn h rfl), fun h => h1 (dn h rfl), fun h => h2 (dn h rfl), fun h => h3 (dn h rfl), fun h => h4 (dn h rfl), fun h => h5 (dn h rfl), fun h => h6 (dn h rfl), fun h => h7 (dn h rfl), fun h => (by obtain ⟨b, q1, q2, q3, q4⟩ := h8 (dn h rfl); exact ⟨b, q1, q2, q3.below hl, fun h => boxN_below (q4 (dn h rfl)) hl⟩), fun _ => ⟨w.heap.size, rfl, hb.size, ⟨_, _, _, _, _, _, BoxN.new w #[.int .u64 0, .int .u64 0, .int .u64 0, .int .i64 0, .int .i64 0, .bool false] 24⟩, fun h => absurd (g11 (dn h rfl)) (by rw [hd]; decide)⟩, fun h k e => (by obtain ⟨b, q1, q2, q3, q4⟩ := h8 (dn h rfl); rw [q1] at e; cases e; have := q3.lt; omega), fun h => (by show (_ || _) = true; rw [g10 (dn h rfl)]; rfl), fun h => (by show (_ || _) = true; rw [g11 (dn h rfl)]; rfl)⟩
  · rintro d a w hd hall ⟨v5, v6, v10, v11, v12, v13, v14, v15, v16, v17, rfl, hb, h0, h1, h2, h3, h4, h5, h6, h7, h8, h9, hne, g10, g11⟩ K' hK
    have e8 : d 8 = true := hall ⟨8, .data⟩ (by simp) rfl
    have e9 : d 9 = true := hall ⟨9, .phase⟩ (by simp) rfl
    have e3 : d 3 = true := hall ⟨3, .data⟩ (by simp) rfl
    clear hall
    apply Exists.elim (h8 e8)
    intro b5 z5
    have q5 := z5.1
    have hg5 := z5.2.1
    have hx5 := z5.2.2.1
    have hc5 := z5.2.2.2
    subst q5
    apply Exists.elim (h9 e9)
    intro b6 z6
    have q6 := z6.1
    have hg6 := z6.2.1
    have hx6 := z6.2.2.1
    have hc6 := z6.2.2.2
    subst q6
    obtain rfl := h3 e3
    simp only [Act.put, List.setIfInBounds_toArray, List.set_cons_zero, List.set_cons_succ]
    have n56 : b5 ≠ b6 := fun e => hne e8 e9 (by rw [e])
    have n65 : b6 ≠ b5 := fun e => n56 e.symm
    apply Exists.elim hx5; intro c0 y0; apply Exists.elim y0; intro c1 y1; apply Exists.elim y1; intro c2 y2; apply Exists.elim y2; intro c3 y3; apply Exists.elim y3; intro c4 y4; apply Exists.elim y4; intro c5 hx
    clear y0 y1 y2 y3 y4
    have zz := boxN6 hx
    have i0 := zz.1.1; have i1 := zz.1.2.1; have i2 := zz.1.2.2.1; have i3 := zz.1.2.2.2.1; have i4 := zz.1.2.2.2.2.1; have i5 := zz.1.2.2.2.2.2
    have j0 := zz.2.1; have j1 := zz.2.2.1; have j2 := zz.2.2.2.1; have j3 := zz.2.2.2.2.1; have j4 := zz.2.2.2.2.2.1; have j5 := zz.2.2.2.2.2.2
    clear zz
    go_simp
    exact hK.out _ _ ⟨.pointer (some ⟨b5, 0, none⟩), .pointer (some ⟨b6, 0, none⟩), v10, v11, v12, .agg #[.int .u64 db, .int .u64 dt, .int .u64 da, .int .i64 dp, .int .i64 dy, .bool dg], v14, v15, v16, v17, (by simp only [Act.put, List.setIfInBounds_toArray, List.set_cons_zero, List.set_cons_succ]), below_set6 hb hg5, fun h => h0 (dn h rfl), fun h => h1 (dn h rfl), fun h => h2 (dn h rfl), fun _ => rfl, fun h => h4 (dn h rfl), fun h => h5 (dn h rfl), fun h => h6 (dn h rfl), fun h => h7 (dn h rfl), fun _ => ⟨b5, rfl, hg5, ⟨_, _, _, _, _, _, box_s6' hx (.int .u64 db) (.int .u64 dt) (.int .u64 da) (.int .i64 dp) (.int .i64 dy) (.bool dg)⟩, fun _ => box_s6' hx (.int .u64 db) (.int .u64 dt) (.int .u64 da) (.int .i64 dp) (.int .i64 dy) (.bool dg)⟩, fun _ => ⟨b6, rfl, hg6, hx6.off n56 (.int .u64 db) (.int .u64 dt) (.int .u64 da) (.int .i64 dp) (.int .i64 dy) (.bool dg), fun h => box_off6 (hc6 (dn h rfl)) n56 (.int .u64 db) (.int .u64 dt) (.int .u64 da) (.int .i64 dp) (.int .i64 dy) (.bool dg)⟩, fun h k => hne e8 e9, fun _ => (by show (_ || _) = true; rw [e8]; rfl), fun h => (by show (_ || _) = true; rw [g11 (dn h rfl)]; rfl)⟩
  · rintro d a w hd hall ⟨v5, v6, v10, v11, v12, v13, v14, v15, v16, v17, rfl, hb, h0, h1, h2, h3, h4, h5, h6, h7, h8, h9, hne, g10, g11⟩ K' hK
    have e9 : d 9 = true := hall ⟨9, .data⟩ (by simp) rfl
    have e8 : d 8 = true := hall ⟨8, .phase⟩ (by simp) rfl
    have e7 : d 7 = true := hall ⟨7, .data⟩ (by simp) rfl
    have e10 : d 10 = true := hall ⟨10, .chain⟩ (by simp) rfl
    clear hall
    apply Exists.elim (h9 e9)
    intro b6 z6
    have q6 := z6.1
    have hg6 := z6.2.1
    have hx6 := z6.2.2.1
    have hc6 := z6.2.2.2
    subst q6
    apply Exists.elim (h8 e8)
    intro b5 z5
    have q5 := z5.1
    have hg5 := z5.2.1
    have hx5 := z5.2.2.1
    have hc5 := z5.2.2.2
    subst q5
    obtain rfl := h7 e7
    simp only [Act.put, List.setIfInBounds_toArray, List.set_cons_zero, List.set_cons_succ]
    have n56 : b5 ≠ b6 := fun e => hne e8 e9 (by rw [e])
    have n65 : b6 ≠ b5 := fun e => n56 e.symm
    apply Exists.elim hx6; intro c0 y0; apply Exists.elim y0; intro c1 y1; apply Exists.elim y1; intro c2 y2; apply Exists.elim y2; intro c3 y3; apply Exists.elim y3; intro c4 y4; apply Exists.elim y4; intro c5 hx
    clear y0 y1 y2 y3 y4
    have zz := boxN6 hx
    have i0 := zz.1.1; have i1 := zz.1.2.1; have i2 := zz.1.2.2.1; have i3 := zz.1.2.2.2.1; have i4 := zz.1.2.2.2.2.1; have i5 := zz.1.2.2.2.2.2
    have j0 := zz.2.1; have j1 := zz.2.2.1; have j2 := zz.2.2.2.1; have j3 := zz.2.2.2.2.1; have j4 := zz.2.2.2.2.2.1; have j5 := zz.2.2.2.2.2.2
    clear zz
    go_simp
    exact hK.out _ _ ⟨.pointer (some ⟨b5, 0, none⟩), .pointer (some ⟨b6, 0, none⟩), v10, v11, v12, v13, v14, v15, v16, .agg #[.int .u64 fb, .int .u64 ft, .int .u64 fa, .int .i64 fp, .int .i64 fy, .bool fg], (by simp only [Act.put, List.setIfInBounds_toArray, List.set_cons_zero, List.set_cons_succ]), below_set6 hb hg6, fun h => h0 (dn h rfl), fun h => h1 (dn h rfl), fun h => h2 (dn h rfl), fun h => h3 (dn h rfl), fun h => h4 (dn h rfl), fun h => h5 (dn h rfl), fun h => h6 (dn h rfl), fun _ => rfl, fun _ => ⟨b5, rfl, hg5, hx5.off n65 (.int .u64 fb) (.int .u64 ft) (.int .u64 fa) (.int .i64 fp) (.int .i64 fy) (.bool fg), fun h => box_off6 (hc5 (dn h rfl)) n65 (.int .u64 fb) (.int .u64 ft) (.int .u64 fa) (.int .i64 fp) (.int .i64 fy) (.bool fg)⟩, fun _ => ⟨b6, rfl, hg6, ⟨_, _, _, _, _, _, box_s6' hx (.int .u64 fb) (.int .u64 ft) (.int .u64 fa) (.int .i64 fp) (.int .i64 fy) (.bool fg)⟩, fun _ => box_s6' hx (.int .u64 fb) (.int .u64 ft) (.int .u64 fa) (.int .i64 fp) (.int .i64 fy) (.bool fg)⟩, fun h k => hne e8 e9, fun h => (by show (_ || _) = true; rw [g10 (dn h rfl)]; rfl), fun _ => (by show (_ || _) = true; rw [e9]; rfl)⟩
  · rintro d a w hl ⟨v5, v6, v10, v11, v12, v13, v14, v15, v16, v17, rfl, hb, h0, h1, h2, h3, h4, h5, h6, h7, h8, h9, hne, g10, g11⟩
    have dd : ∀ i, i < 12 → d i = true := hl
    obtain ⟨b5, rfl, hg5, -, hD⟩ := h8 (dd 8 (by decide))
    obtain ⟨b6, rfl, hg6, -, hE⟩ := h9 (dd 9 (by decide))
    have n56 : b5 ≠ b6 := fun e => hne (dd 8 (by decide)) (dd 9 (by decide)) (by rw [e])
    replace hD := hD (dd 10 (by decide))
    replace hE := hE (dd 11 (by decide))
    clear h0 h1 h2 h3 h4 h5 h6 h7 h8 h9 hne g10 g11 hl dd
    simp only [Act.put, List.setIfInBounds_toArray, List.set_cons_zero, List.set_cons_succ]
    have HS : Hid (RkS W w b5 b6 #[.int .i64 (op : Int), .int .i64 (rd : Int), .int .i64 (r1 : Int), .int .i64 (r2 : Int), .int .i64 n] #[.int .u64 db, .int .u64 dt, .int .u64 da, .int .i64 dp, .int .i64 dy, .bool dg] #[.int .u64 fb, .int .u64 ft, .int .u64 fa, .int .i64 fp, .int .i64 fy, .bool fg]) := Lib.hid ⟨HB.out.trans (hb.mono HB.out.size), boxN_below HX.out hb, boxN_below HZ.out hb, hD, hE, by have := HS0.out; omega, by have := HS0.out; omega, n56⟩
    clear hb hD hE n56 hg5 hg6 HSX HC1 HC2 HB HX HZ HS0
    obtain ⟨⟨d0, d1, d2, d3, d4, d5⟩, -⟩ := boxN6 HS.out.d
    obtain ⟨⟨e0, e1, e2, e3, e4, e5⟩, -⟩ := boxN6 HS.out.e
    have x0 : w.cell? ⟨W.heap.size, 0, none⟩ = some (.int .i64 (op : Int)) := HS.out.x.cell 0
    have x4 : w.cell? ⟨W.heap.size, 4, none⟩ = some (.int .i64 n) := HS.out.x.cell 4
    go_wp2_with fail
    refine (HKD.out _ HS.out.b).mono ?_; rintro e w2 ⟨rfl, hb2⟩
    clear HKD
    have HS' := Lib.hid (HS.out.below hb2)
    clear HS hb2 d0 d1 d2 d3 d4 d5 e0 e1 e2 e3 e4 e5 x0 x4
    have HS := HS'
    clear HS'
    obtain ⟨⟨d0, d1, d2, d3, d4, d5⟩, -⟩ := boxN6 HS.out.d
    obtain ⟨⟨e0, e1, e2, e3, e4, e5⟩, -⟩ := boxN6 HS.out.e
    have x0 : w2.cell? ⟨W.heap.size, 0, none⟩ = some (.int .i64 (op : Int)) := HS.out.x.cell 0
    have x4 : w2.cell? ⟨W.heap.size, 4, none⟩ = some (.int .i64 n) := HS.out.x.cell 4
    cases HC.out with
    | c0 h0 h1 h2 hv =>
      have HV := Lib.hid (fun w => cint_any (Al.reckZ op da (IntKind.u64.wrap n)) w)
      have HRK := Lib.hid (fun w => reckon_in op h0 h1 da (IntKind.u64.wrap n) w ⟨HGD.out.a0, HGD.out.a1⟩ ⟨by rw [IntKind.wrap_u64]; omega, by rw [IntKind.wrap_u64]; omega⟩)
      obtain ⟨rv, hrv⟩ : ∃ x, Al.reckZ op da (IntKind.u64.wrap n) = x := ⟨_, rfl⟩
      rw [hrv] at HRK HV hv
      clear hrv h0 h1
      rw [hv] at HV
      unfold capC at HV
      simp only [] at HV
      clear hv
      go_wp2_with fail
      refine (HRK.out _).mono ?_; rintro e w3 ⟨rfl, hb3⟩
      clear HRK
      have HS' := Lib.hid (HS.out.below hb3)
      clear HS hb3 d0 d1 d2 d3 d4 d5 e0 e1 e2 e3 e4 e5 x0 x4
      have HS := HS'
      clear HS'
      obtain ⟨⟨d0, d1, d2, d3, d4, d5⟩, -⟩ := boxN6 HS.out.d
      obtain ⟨⟨e0, e1, e2, e3, e4, e5⟩, -⟩ := boxN6 HS.out.e
      have x0 : w3.cell? ⟨W.heap.size, 0, none⟩ = some (.int .i64 (op : Int)) := HS.out.x.cell 0
      have x4 : w3.cell? ⟨W.heap.size, 4, none⟩ = some (.int .i64 n) := HS.out.x.cell 4
      go_wp2_with fail
      refine (HV.out _).mono ?_; rintro e w4 ⟨rfl, hb4⟩
      have HB4 := Lib.hid (HS.out.below hb4).b
      obtain ⟨⟨i0, i1, i2, i3, i4, i5⟩, j0, j1, j2, j3, j4, j5⟩ := boxN6 (HS.out.below hb4).z
      clear hb4 HS d0 d1 d2 d3 d4 d5 e0 e1 e2 e3 e4 e5 x0 x4
      go_wp2_with fail
      exact bodyPost_ret (v := .agg #[.int .u64 vb, .int .u64 vt, .int .u64 va, .int .i64 vp, .int .i64 vy, .bool vg]) (by simp [results, Tryz.results91, go_sem, *]) rfl ⟨rfl, below_set6 HB4.out (show W.heap.size ≤ W.heap.size + 1 by omega)⟩
    | c1 h0 h1 h2 hv =>
      have HV := Lib.hid (fun w => cint_any (Al.reckZ op da fa) w)
      have HRK := Lib.hid (fun w => reckon_in op h0 h1 da fa w ⟨HGD.out.a0, HGD.out.a1⟩ ⟨HGE.out.a0, HGE.out.a1⟩)
      obtain ⟨rv, hrv⟩ : ∃ x, Al.reckZ op da fa = x := ⟨_, rfl⟩
      rw [hrv] at HRK HV hv
      clear hrv h0 h1
      rw [hv] at HV
      unfold capC at HV
      simp only [] at HV
      clear hv
      go_wp2_with fail
      refine (HRK.out _).mono ?_; rintro e w3 ⟨rfl, hb3⟩
      clear HRK
      have HS' := Lib.hid (HS.out.below hb3)
      clear HS hb3 d0 d1 d2 d3 d4 d5 e0 e1 e2 e3 e4 e5 x0 x4
      have HS := HS'
      clear HS'
      obtain ⟨⟨d0, d1, d2, d3, d4, d5⟩, -⟩ := boxN6 HS.out.d
      obtain ⟨⟨e0, e1, e2, e3, e4, e5⟩, -⟩ := boxN6 HS.out.e
      have x0 : w3.cell? ⟨W.heap.size, 0, none⟩ = some (.int .i64 (op : Int)) := HS.out.x.cell 0
      have x4 : w3.cell? ⟨W.heap.size, 4, none⟩ = some (.int .i64 n) := HS.out.x.cell 4
      go_wp2_with fail
      refine (HV.out _).mono ?_; rintro e w4 ⟨rfl, hb4⟩
      have HB4 := Lib.hid (HS.out.below hb4).b
      obtain ⟨⟨i0, i1, i2, i3, i4, i5⟩, j0, j1, j2, j3, j4, j5⟩ := boxN6 (HS.out.below hb4).z
      clear hb4 HS d0 d1 d2 d3 d4 d5 e0 e1 e2 e3 e4 e5 x0 x4
      go_wp2_with fail
      exact bodyPost_ret (v := .agg #[.int .u64 vb, .int .u64 vt, .int .u64 va, .int .i64 vp, .int .i64 vy, .bool vg]) (by simp [results, Tryz.results91, go_sem, *]) rfl ⟨rfl, below_set6 HB4.out (show W.heap.size ≤ W.heap.size + 1 by omega)⟩
    | c2 h0 h1 h2 hv =>
      have HV := Lib.hid (fun w => cbound_any ⟨db, dt, da, dp, dy, dg⟩ HGD.out fa HGE.out.a0 w)
      have HRK := Lib.hid (fun w => Al.reckon_out (op : Int) da fa w (Or.inr (by omega)))
      clear h0
      rw [hv] at HV
      unfold capC at HV
      simp only [] at HV
      clear hv
      go_wp2_with fail
      refine (HRK.out _).mono ?_; rintro e w3 ⟨rfl, hb3⟩
      clear HRK
      have HS' := Lib.hid (HS.out.below hb3)
      clear HS hb3 d0 d1 d2 d3 d4 d5 e0 e1 e2 e3 e4 e5 x0 x4
      have HS := HS'
      clear HS'
      obtain ⟨⟨d0, d1, d2, d3, d4, d5⟩, -⟩ := boxN6 HS.out.d
      obtain ⟨⟨e0, e1, e2, e3, e4, e5⟩, -⟩ := boxN6 HS.out.e
      have x0 : w3.cell? ⟨W.heap.size, 0, none⟩ = some (.int .i64 (op : Int)) := HS.out.x.cell 0
      have x4 : w3.cell? ⟨W.heap.size, 4, none⟩ = some (.int .i64 n) := HS.out.x.cell 4
      go_wp2_with fail
      refine (HNM.out _ HS.out.b).mono ?_; rintro e w3' ⟨rfl, rfl⟩
      clear HNM
      go_wp2_with fail
      refine (HV.out _).mono ?_; rintro e w4 ⟨rfl, hb4⟩
      have HB4 := Lib.hid (HS.out.below hb4).b
      obtain ⟨⟨i0, i1, i2, i3, i4, i5⟩, j0, j1, j2, j3, j4, j5⟩ := boxN6 (HS.out.below hb4).z
      clear hb4 HS d0 d1 d2 d3 d4 d5 e0 e1 e2 e3 e4 e5 x0 x4
      go_wp2_with fail
      exact bodyPost_ret (v := .agg #[.int .u64 vb, .int .u64 vt, .int .u64 va, .int .i64 vp, .int .i64 vy, .bool vg]) (by simp [results, Tryz.results91, go_sem, *]) rfl ⟨rfl, below_set6 HB4.out (show W.heap.size ≤ W.heap.size + 1 by omega)⟩
    | c3 h0 h1 h2 h3 hv =>
      have HV := Lib.hid (fun w => cand_any ⟨db, dt, da, dp, dy, dg⟩ (fa % 256) w)
      have HRK := Lib.hid (fun w => Al.reckon_out (op : Int) da fa w (Or.inr (by omega)))
      clear h0
      have HBT := Lib.hid (fun w => bits_any fa 0 8 w HGE.out.a0 HGE.out.a1)
      rw [bits8 fa HGE.out.a0 HGE.out.a1] at HBT
      obtain ⟨bm, hbm⟩ : ∃ x, fa % 256 = x := ⟨_, rfl⟩
      have hbw : IntKind.i64.wrap bm = bm := by rw [← hbm, IntKind.wrap_i64]; omega
      rw [hbm] at HBT HV hv
      clear hbm
      rw [hv] at HV
      unfold capC at HV
      simp only [] at HV
      clear hv
      go_wp2_with fail
      refine (HRK.out _).mono ?_; rintro e w3 ⟨rfl, hb3⟩
      clear HRK
      have HS' := Lib.hid (HS.out.below hb3)
      clear HS hb3 d0 d1 d2 d3 d4 d5 e0 e1 e2 e3 e4 e5 x0 x4
      have HS := HS'
      clear HS'
      obtain ⟨⟨d0, d1, d2, d3, d4, d5⟩, -⟩ := boxN6 HS.out.d
      obtain ⟨⟨e0, e1, e2, e3, e4, e5⟩, -⟩ := boxN6 HS.out.e
      have x0 : w3.cell? ⟨W.heap.size, 0, none⟩ = some (.int .i64 (op : Int)) := HS.out.x.cell 0
      have x4 : w3.cell? ⟨W.heap.size, 4, none⟩ = some (.int .i64 n) := HS.out.x.cell 4
      go_wp2_with fail
      refine (HNM.out _ HS.out.b).mono ?_; rintro e w3' ⟨rfl, rfl⟩
      clear HNM
      have HS4 := Lib.hid (boxN6 (HS.out.below (Below.drew (Below.refl w3.heap.size w3))).d).1
      clear d0 d1 d2 d3 d4 d5 e0 e1 e2 e3 e4 e5 x0 x4
      go_upto_region 12 with fail
      go_region_held3 (fun W1 => W1.cell? ⟨b5, 0, none⟩ = some (.int .u64 db) ∧ W1.cell? ⟨b5, 1, none⟩ = some (.int .u64 dt) ∧ W1.cell? ⟨b5, 2, none⟩ = some (.int .u64 da) ∧ W1.cell? ⟨b5, 3, none⟩ = some (.int .i64 dp) ∧ W1.cell? ⟨b5, 4, none⟩ = some (.int .i64 dy) ∧ W1.cell? ⟨b5, 5, none⟩ = some (.bool dg))
        (first | with_reducible exact HS4.out | with_reducible exact HS5.out | with_reducible exact HS6.out | with_reducible exact HS7.out)
        (first
          | (go_at_call 142; refine (HBT.out _).mono ?_; rintro e w5 ⟨rfl, hq⟩; have hb5 : Below w3.heap.size w3 w5 := (Below.drew (Below.refl _ _)).trans (Al.quiet_below hq); have HS5 := Lib.hid (boxN6 (HS.out.below hb5).d).1; have HL5 := Lib.hid hb5; clear hq hb5)
          | (go_at_call 141; refine (HV.out _).mono ?_; rintro e w6 ⟨rfl, hb6⟩; have hb6' : Below w3.heap.size w3 w6 := HL5.out.trans (hb6.mono HL5.out.size); have HL6 := Lib.hid hb6'; obtain ⟨⟨i0, i1, i2, i3, i4, i5⟩, j0, j1, j2, j3, j4, j5⟩ := boxN6 (HS.out.below hb6').z; have HS6 := Lib.hid (boxN6 (HS.out.below hb6').d).1; have HS7 := Lib.hid (boxN6 (box_off6 (R := W.heap.size + 1) (HS.out.below hb6').d (by have := HS.out.n1; omega) (.int .u64 vb) (.int .u64 vt) (.int .u64 va) (.int .i64 vp) (.int .i64 vy) (.bool vg))).1; clear hb6 hb6'))
      have HB4 := Lib.hid (HS.out.below HL6.out).b
      go_wp2_with fail
      exact bodyPost_ret (v := .agg #[.int .u64 vb, .int .u64 vt, .int .u64 va, .int .i64 vp, .int .i64 vy, .bool vg]) (by simp [results, Tryz.results91, go_sem, *]) rfl ⟨rfl, below_set6 HB4.out (show W.heap.size ≤ W.heap.size + 1 by omega)⟩
    | c4 h0 h1 h2 h3 h4 hv =>
      have HV := Lib.hid (fun w => cseal_any ⟨db, dt, da, dp, dy, dg⟩ ⟨fb, ft, fa, fp, fy, fg⟩ HGE.out w)
      have HRK := Lib.hid (fun w => Al.reckon_out (op : Int) da fa w (Or.inr (by omega)))
      clear h0
      rw [hv] at HV
      unfold capC at HV
      simp only [] at HV
      clear hv
      go_wp2_with fail
      refine (HRK.out _).mono ?_; rintro e w3 ⟨rfl, hb3⟩
      clear HRK
      have HS' := Lib.hid (HS.out.below hb3)
      clear HS hb3 d0 d1 d2 d3 d4 d5 e0 e1 e2 e3 e4 e5 x0 x4
      have HS := HS'
      clear HS'
      obtain ⟨⟨d0, d1, d2, d3, d4, d5⟩, -⟩ := boxN6 HS.out.d
      obtain ⟨⟨e0, e1, e2, e3, e4, e5⟩, -⟩ := boxN6 HS.out.e
      have x0 : w3.cell? ⟨W.heap.size, 0, none⟩ = some (.int .i64 (op : Int)) := HS.out.x.cell 0
      have x4 : w3.cell? ⟨W.heap.size, 4, none⟩ = some (.int .i64 n) := HS.out.x.cell 4
      go_wp2_with fail
      refine (HNM.out _ HS.out.b).mono ?_; rintro e w3' ⟨rfl, rfl⟩
      clear HNM
      go_wp2_with fail
      refine (HV.out _).mono ?_; rintro e w4 ⟨rfl, hb4⟩
      have HB4 := Lib.hid (HS.out.below hb4).b
      obtain ⟨⟨i0, i1, i2, i3, i4, i5⟩, j0, j1, j2, j3, j4, j5⟩ := boxN6 (HS.out.below hb4).z
      clear hb4 HS d0 d1 d2 d3 d4 d5 e0 e1 e2 e3 e4 e5 x0 x4
      go_wp2_with fail
      exact bodyPost_ret (v := .agg #[.int .u64 vb, .int .u64 vt, .int .u64 va, .int .i64 vp, .int .i64 vy, .bool vg]) (by simp [results, Tryz.results91, go_sem, *]) rfl ⟨rfl, below_set6 HB4.out (show W.heap.size ≤ W.heap.size + 1 by omega)⟩
    | c5 h0 h1 h2 h3 h4 h5 hv =>
      have HV := Lib.hid (fun w => cunseal_any ⟨db, dt, da, dp, dy, dg⟩ ⟨fb, ft, fa, fp, fy, fg⟩ HGE.out w)
      have HRK := Lib.hid (fun w => Al.reckon_out (op : Int) da fa w (Or.inr (by omega)))
      clear h0
      rw [hv] at HV
      unfold capC at HV
      simp only [] at HV
      clear hv
      go_wp2_with fail
      refine (HRK.out _).mono ?_; rintro e w3 ⟨rfl, hb3⟩
      clear HRK
      have HS' := Lib.hid (HS.out.below hb3)
      clear HS hb3 d0 d1 d2 d3 d4 d5 e0 e1 e2 e3 e4 e5 x0 x4
      have HS := HS'
      clear HS'
      obtain ⟨⟨d0, d1, d2, d3, d4, d5⟩, -⟩ := boxN6 HS.out.d
      obtain ⟨⟨e0, e1, e2, e3, e4, e5⟩, -⟩ := boxN6 HS.out.e
      have x0 : w3.cell? ⟨W.heap.size, 0, none⟩ = some (.int .i64 (op : Int)) := HS.out.x.cell 0
      have x4 : w3.cell? ⟨W.heap.size, 4, none⟩ = some (.int .i64 n) := HS.out.x.cell 4
      go_wp2_with fail
      refine (HNM.out _ HS.out.b).mono ?_; rintro e w3' ⟨rfl, rfl⟩
      clear HNM
      go_wp2_with fail
      refine (HV.out _).mono ?_; rintro e w4 ⟨rfl, hb4⟩
      have HB4 := Lib.hid (HS.out.below hb4).b
      obtain ⟨⟨i0, i1, i2, i3, i4, i5⟩, j0, j1, j2, j3, j4, j5⟩ := boxN6 (HS.out.below hb4).z
      clear hb4 HS d0 d1 d2 d3 d4 d5 e0 e1 e2 e3 e4 e5 x0 x4
      go_wp2_with fail
      exact bodyPost_ret (v := .agg #[.int .u64 vb, .int .u64 vt, .int .u64 va, .int .i64 vp, .int .i64 vy, .bool vg]) (by simp [results, Tryz.results91, go_sem, *]) rfl ⟨rfl, below_set6 HB4.out (show W.heap.size ≤ W.heap.size + 1 by omega)⟩
    | c6 h0 h1 h2 h3 h4 h5 h6 hv =>
      have HV := Lib.hid (fun w => cmove_any ⟨db, dt, da, dp, dy, dg⟩ fa w)
      have HRK := Lib.hid (fun w => Al.reckon_out (op : Int) da fa w (Or.inr (by omega)))
      clear h0
      rw [hv] at HV
      unfold capC at HV
      simp only [] at HV
      clear hv
      go_wp2_with fail
      refine (HRK.out _).mono ?_; rintro e w3 ⟨rfl, hb3⟩
      clear HRK
      have HS' := Lib.hid (HS.out.below hb3)
      clear HS hb3 d0 d1 d2 d3 d4 d5 e0 e1 e2 e3 e4 e5 x0 x4
      have HS := HS'
      clear HS'
      obtain ⟨⟨d0, d1, d2, d3, d4, d5⟩, -⟩ := boxN6 HS.out.d
      obtain ⟨⟨e0, e1, e2, e3, e4, e5⟩, -⟩ := boxN6 HS.out.e
      have x0 : w3.cell? ⟨W.heap.size, 0, none⟩ = some (.int .i64 (op : Int)) := HS.out.x.cell 0
      have x4 : w3.cell? ⟨W.heap.size, 4, none⟩ = some (.int .i64 n) := HS.out.x.cell 4
      go_wp2_with fail
      refine (HNM.out _ HS.out.b).mono ?_; rintro e w3' ⟨rfl, rfl⟩
      clear HNM
      go_wp2_with fail
      refine (HV.out _).mono ?_; rintro e w4 ⟨rfl, hb4⟩
      have HB4 := Lib.hid (HS.out.below hb4).b
      obtain ⟨⟨i0, i1, i2, i3, i4, i5⟩, j0, j1, j2, j3, j4, j5⟩ := boxN6 (HS.out.below hb4).z
      clear hb4 HS d0 d1 d2 d3 d4 d5 e0 e1 e2 e3 e4 e5 x0 x4
      go_wp2_with fail
      exact bodyPost_ret (v := .agg #[.int .u64 vb, .int .u64 vt, .int .u64 va, .int .i64 vp, .int .i64 vy, .bool vg]) (by simp [results, Tryz.results91, go_sem, *]) rfl ⟨rfl, below_set6 HB4.out (show W.heap.size ≤ W.heap.size + 1 by omega)⟩
    | c7 h0 h1 h2 h3 h4 h5 h6 h7 hv =>
      have HV := Lib.hid (fun w => cmove_any ⟨db, dt, da, dp, dy, dg⟩ (IntKind.u64.wrap (da + fa)) w)
      have HRK := Lib.hid (fun w => Al.reckon_out (op : Int) da fa w (Or.inr (by omega)))
      clear h0
      obtain ⟨sm, hsm⟩ : ∃ x, IntKind.u64.wrap (da + fa) = x := ⟨_, rfl⟩
      rw [hsm] at HV hv
      rw [hv] at HV
      unfold capC at HV
      simp only [] at HV
      clear hv
      go_wp2_with fail
      refine (HRK.out _).mono ?_; rintro e w3 ⟨rfl, hb3⟩
      clear HRK
      have HS' := Lib.hid (HS.out.below hb3)
      clear HS hb3 d0 d1 d2 d3 d4 d5 e0 e1 e2 e3 e4 e5 x0 x4
      have HS := HS'
      clear HS'
      obtain ⟨⟨d0, d1, d2, d3, d4, d5⟩, -⟩ := boxN6 HS.out.d
      obtain ⟨⟨e0, e1, e2, e3, e4, e5⟩, -⟩ := boxN6 HS.out.e
      have x0 : w3.cell? ⟨W.heap.size, 0, none⟩ = some (.int .i64 (op : Int)) := HS.out.x.cell 0
      have x4 : w3.cell? ⟨W.heap.size, 4, none⟩ = some (.int .i64 n) := HS.out.x.cell 4
      go_wp2_with fail
      refine (HNM.out _ HS.out.b).mono ?_; rintro e w3' ⟨rfl, rfl⟩
      clear HNM
      go_wp2_with fail
      refine (HV.out _).mono ?_; rintro e w4 ⟨rfl, hb4⟩
      have HB4 := Lib.hid (HS.out.below hb4).b
      obtain ⟨⟨i0, i1, i2, i3, i4, i5⟩, j0, j1, j2, j3, j4, j5⟩ := boxN6 (HS.out.below hb4).z
      clear hb4 HS d0 d1 d2 d3 d4 d5 e0 e1 e2 e3 e4 e5 x0 x4
      go_wp2_with fail
      exact bodyPost_ret (v := .agg #[.int .u64 vb, .int .u64 vt, .int .u64 va, .int .i64 vp, .int .i64 vy, .bool vg]) (by simp [results, Tryz.results91, go_sem, *]) rfl ⟨rfl, below_set6 HB4.out (show W.heap.size ≤ W.heap.size + 1 by omega)⟩
    | c8 h0 h1 h2 h3 h4 h5 h6 h7 hv =>
      have HV := Lib.hid (fun w => flag_any (dg == fg && withinP ⟨fb, ft, fa, fp, fy, fg⟩ ⟨db, dt, da, dp, dy, dg⟩) w)
      have HRK := Lib.hid (fun w => Al.reckon_out (op : Int) da fa w (Or.inr (by omega)))
      clear h0
      have HWI := Lib.hid (fun w => cwithin_any ⟨fb, ft, fa, fp, fy, fg⟩ ⟨db, dt, da, dp, dy, dg⟩ w)
      obtain ⟨wi, hwi⟩ : ∃ o, withinP ⟨fb, ft, fa, fp, fy, fg⟩ ⟨db, dt, da, dp, dy, dg⟩ = o := ⟨_, rfl⟩
      rw [hwi] at HWI HV hv
      unfold capC at HWI
      simp only [] at HWI
      clear hwi
      rw [hv] at HV
      unfold capC at HV
      simp only [] at HV
      clear hv
      go_wp2_with fail
      refine (HRK.out _).mono ?_; rintro e w3 ⟨rfl, hb3⟩
      clear HRK
      have HS' := Lib.hid (HS.out.below hb3)
      clear HS hb3 d0 d1 d2 d3 d4 d5 e0 e1 e2 e3 e4 e5 x0 x4
      have HS := HS'
      clear HS'
      obtain ⟨⟨d0, d1, d2, d3, d4, d5⟩, -⟩ := boxN6 HS.out.d
      obtain ⟨⟨e0, e1, e2, e3, e4, e5⟩, -⟩ := boxN6 HS.out.e
      have x0 : w3.cell? ⟨W.heap.size, 0, none⟩ = some (.int .i64 (op : Int)) := HS.out.x.cell 0
      have x4 : w3.cell? ⟨W.heap.size, 4, none⟩ = some (.int .i64 n) := HS.out.x.cell 4
      go_wp2_with fail
      refine (HNM.out _ HS.out.b).mono ?_; rintro e w3' ⟨rfl, rfl⟩
      clear HNM
      by_cases hgg : (dg == fg) = true
      · rw [hgg] at HV
        simp only [Bool.true_and] at HV
        go_wp2_with fail
        refine (HWI.out _).mono ?_; rintro e w5 ⟨rfl, hb5⟩
        have HS' := Lib.hid (HS.out.below hb5)
        clear HS hb5 d0 d1 d2 d3 d4 d5 e0 e1 e2 e3 e4 e5 x0 x4
        have HS := HS'
        clear HS'
        obtain ⟨⟨d0, d1, d2, d3, d4, d5⟩, -⟩ := boxN6 HS.out.d
        obtain ⟨⟨e0, e1, e2, e3, e4, e5⟩, -⟩ := boxN6 HS.out.e
        have x0 : w5.cell? ⟨W.heap.size, 0, none⟩ = some (.int .i64 (op : Int)) := HS.out.x.cell 0
        have x4 : w5.cell? ⟨W.heap.size, 4, none⟩ = some (.int .i64 n) := HS.out.x.cell 4
        go_wp2_with fail
        refine (HV.out _).mono ?_; rintro e w4 ⟨rfl, hb4⟩
        have HB4 := Lib.hid (HS.out.below hb4).b
        obtain ⟨⟨i0, i1, i2, i3, i4, i5⟩, j0, j1, j2, j3, j4, j5⟩ := boxN6 (HS.out.below hb4).z
        clear hb4 HS d0 d1 d2 d3 d4 d5 e0 e1 e2 e3 e4 e5 x0 x4
        go_wp2_with fail
        exact bodyPost_ret (v := .agg #[.int .u64 vb, .int .u64 vt, .int .u64 va, .int .i64 vp, .int .i64 vy, .bool vg]) (by simp [results, Tryz.results91, go_sem, *]) rfl ⟨rfl, below_set6 HB4.out (show W.heap.size ≤ W.heap.size + 1 by omega)⟩
      · rw [Bool.not_eq_true] at hgg
        rw [hgg] at HV
        simp only [Bool.false_and] at HV
        go_wp2_with fail
        refine (HV.out _).mono ?_; rintro e w4 ⟨rfl, hb4⟩
        have HB4 := Lib.hid (HS.out.below hb4).b
        obtain ⟨⟨i0, i1, i2, i3, i4, i5⟩, j0, j1, j2, j3, j4, j5⟩ := boxN6 (HS.out.below hb4).z
        clear hb4 HS d0 d1 d2 d3 d4 d5 e0 e1 e2 e3 e4 e5 x0 x4
        go_wp2_with fail
        exact bodyPost_ret (v := .agg #[.int .u64 vb, .int .u64 vt, .int .u64 va, .int .i64 vp, .int .i64 vy, .bool vg]) (by simp [results, Tryz.results91, go_sem, *]) rfl ⟨rfl, below_set6 HB4.out (show W.heap.size ≤ W.heap.size + 1 by omega)⟩
end Go.Proofs.YtegoddghfjfibaaGreatDoor

