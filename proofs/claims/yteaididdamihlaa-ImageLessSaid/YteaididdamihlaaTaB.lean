/- Capabilities of segments: Part and Own, the program's and the document's. -/
import Derived.Test.YteaididdamihlaaTaA
namespace Go.Proofs.Yteaididdamihlaa.Ce
set_option linter.unusedVariables false
set_option linter.unusedSimpArgs false
open Go.Joins Go.ChangeShapes Go.WideShapes Go.ChangeAt Go.RowKit Go.Deep

theorem undrewT {w w' : World} (h : Below w.drew.heap.size w.drew w') : Below w.heap.size w w' := ⟨h.os, h.tape, h.output, h.size, h.block⟩
theorem drew3 {W : World} {p1 p2 p3 : Addr} {u1 u2 u3 : Value} (h : W.cell? p1 = some u1 ∧ W.cell? p2 = some u2 ∧ W.cell? p3 = some u3) : W.drew.cell? p1 = some u1 ∧ W.drew.cell? p2 = some u2 ∧ W.drew.cell? p3 = some u3 := h
theorem cell_set6 {W : World} {b B : Nat} (j : Nat) (v0 v1 v2 v3 v4 v5 : Value) (hne : b ≠ B) : ((((((W.setCell ⟨b, 0, none⟩ v0).setCell ⟨b, 1, none⟩ v1).setCell ⟨b, 2, none⟩ v2).setCell ⟨b, 3, none⟩ v3).setCell ⟨b, 4, none⟩ v4).setCell ⟨b, 5, none⟩ v5).cell? ⟨B, j, none⟩ = W.cell? ⟨B, j, none⟩ :=
  World.cell?_of_block (by rw [Below.heap_setCell _ _ _ _ (Ne.symm hne), Below.heap_setCell _ _ _ _ (Ne.symm hne), Below.heap_setCell _ _ _ _ (Ne.symm hne), Below.heap_setCell _ _ _ _ (Ne.symm hne), Below.heap_setCell _ _ _ _ (Ne.symm hne), Below.heap_setCell _ _ _ _ (Ne.symm hne)])
theorem part_any (v0 v1 v3 v4 v5 v6 : Value) (ga : Option Addr) (m gc : Nat) (l : List Seg) (base : Int) (k : Nat) (s : Seg) (x y pm : Int) (w : World) (hm : l.length = m) (hg : RdG w ga l) (hk : k < m) (hm8 : m < 9223372036854775808) (hs : l[k]? = some s)
    (hb0 : 0 ≤ base) (hp0 : 0 ≤ s.place) (hz0 : 0 ≤ s.size) (hx : base + s.place = x) (hy : x + s.size = y) (hyy : y < 18446744073709551616) (hf0 : 0 ≤ s.flags) (hf7 : s.flags ≤ 7) (hpm : permF s.flags = pm) (hp : 0 ≤ pm ∧ pm ≤ 255) :
    Calls Try.prog 12 #[.agg #[v0, v1, .slice ga m gc, v3, v4, v5, v6], .int .u64 base, .int .i64 (k : Int)] w fun e w' => e = .returned (.agg #[.int .u64 x, .int .u64 y, .int .u64 x, .int .i64 pm, .int .i64 (-1), .bool true]) ∧ Below w.heap.size w w' := by
  have hkl : k < l.length := by rw [hm]; exact hk
  have hsk : l[k] = s := by rw [List.getElem?_eq_getElem hkl] at hs; exact Option.some.inj hs
  obtain ⟨pl, sz, fl, bys, ba, bc⟩ := s
  simp only at hp0 hz0 hx hy hf0 hf7 hpm
  have C1 := Lib.hid (fun w => perms_any fl hf0 hf7 w)
  rw [hpm] at C1
  obtain ⟨g, off, hge, hgl, c0, c1, c2, c3⟩ := (hg.below (bAlloc (bAlloc (Below.refl _ _) (.cells #[v0, v1, .slice ga m gc, v3, v4, v5, v6] 28)) (.cells #[.int .u64 0, .int .u64 0, .int .u64 0, .int .i64 0, .int .i64 0, .bool false] 34))).at_ hkl
  subst hge
  rw [hsk] at c0 c1 c2 c3
  simp only at c0 c1 c2 c3
  have w1 : IntKind.u64.wrap (base + pl) = x := by rw [IntKind.wrap_u64]; omega
  have w2 : IntKind.u64.wrap (x + sz) = y := by rw [IntKind.wrap_u64]; omega
  have kk0 : (0 : Int) ≤ (k : Int) := by omega
  have kk1 : (k : Int) < (m : Int) := by omega
  have kd1 : decide ((m : Int) ≤ (k : Int)) = false := decide_eq_false (by omega)
  have C2 := Lib.hid (fun w => over_any x sz y pm w (by omega) hz0 hy hyy hp.1 hp.2)
  clear hm hg hk hs hkl hsk hp0 hz0 hx hy hyy hf0 hf7 hpm hp hb0 hgl
  go_enter Try.func12, Try.ntmps12
  go_upto_region 4 with fail
  obtain ⟨W3, hW3⟩ : ∃ W, ((w.alloc (.cells #[v0, v1, .slice (some ⟨g, off, none⟩) m gc, v3, v4, v5, v6] 28)).alloc (.cells #[.int .u64 0, .int .u64 0, .int .u64 0, .int .i64 0, .int .i64 0, .bool false] 34)).alloc (.cells #[.int .u64 pl, .int .u64 sz, .int .i64 fl, .slice ba bys.length bc] 40) = W := ⟨_, rfl⟩
  rw [hW3]
  have B3 : Hid (Below w.heap.size w W3) := Lib.hid (by rw [← hW3]; exact bAlloc (bAlloc (bAlloc (Below.refl _ _) _) _) _)
  have X3 : Hid (BoxN W3 (w.heap.size + 1) #[.int .u64 0, .int .u64 0, .int .u64 0, .int .i64 0, .int .i64 0, .bool false]) := Lib.hid (by
    rw [← hW3]
    have h := BoxN.new (w.alloc (.cells #[v0, v1, .slice (some ⟨g, off, none⟩) m gc, v3, v4, v5, v6] 28)) #[.int .u64 0, .int .u64 0, .int .u64 0, .int .i64 0, .int .i64 0, .bool false] 34
    rw [size_alloc] at h
    exact boxN_below h (bAlloc (Below.refl _ _) _))
  have S3 : Hid (BoxN W3 (w.heap.size + 1 + 1) #[.int .u64 pl, .int .u64 sz, .int .i64 fl, .slice ba bys.length bc]) := Lib.hid (by
    rw [← hW3]
    have h := BoxN.new ((w.alloc (.cells #[v0, v1, .slice (some ⟨g, off, none⟩) m gc, v3, v4, v5, v6] 28)).alloc (.cells #[.int .u64 0, .int .u64 0, .int .u64 0, .int .i64 0, .int .i64 0, .bool false] 34)) #[.int .u64 pl, .int .u64 sz, .int .i64 fl, .slice ba bys.length bc] 40
    rw [size_alloc, size_alloc] at h
    exact h)
  clear hW3 c0 c1 c2 c3
  obtain ⟨P, hP⟩ : ∃ P, w.heap.size + 1 = P := ⟨_, rfl⟩
  have HP : Hid (w.heap.size ≤ P) := Lib.hid (by omega)
  rw [hP] at X3 S3 ⊢
  clear hP
  have s0 : W3.cell? ⟨P + 1, 0, none⟩ = some (.int .u64 pl) := S3.out.cell 0
  have s1 : W3.cell? ⟨P + 1, 1, none⟩ = some (.int .u64 sz) := S3.out.cell 1
  have s2 : W3.cell? ⟨P + 1, 2, none⟩ = some (.int .i64 fl) := S3.out.cell 2
  have HS0 := Lib.hid (And.intro s0 (And.intro s1 s2))
  have HSd : Hid (W3.drew.cell? ⟨P + 1, 0, none⟩ = some (.int .u64 pl) ∧ W3.drew.cell? ⟨P + 1, 1, none⟩ = some (.int .u64 sz) ∧ W3.drew.cell? ⟨P + 1, 2, none⟩ = some (.int .i64 fl)) := Lib.hid HS0.out
  clear s0 s1 s2
  go_region_held3 (fun W => W.cell? ⟨P + 1, 0, none⟩ = some (.int .u64 pl) ∧ W.cell? ⟨P + 1, 1, none⟩ = some (.int .u64 sz) ∧ W.cell? ⟨P + 1, 2, none⟩ = some (.int .i64 fl))
    (first | with_reducible exact HSd.out | with_reducible exact HS1.out | go_keep)
    (first
      | (go_at_call 8; refine (C1.out _).mono ?_; rintro e w4 ⟨rfl, rfl⟩)
      | (go_at_call 24; refine (C2.out _).mono ?_; rintro e w5 ⟨rfl, hb⟩; have hb2 : Below W3.heap.size W3 w5 := (by first | exact hb | exact undrewT hb); have HS1 := Lib.hid (And.intro (cell_below hb2 HS0.out.1) (And.intro (cell_below hb2 HS0.out.2.1) (cell_below hb2 HS0.out.2.2))); have X5 := Lib.hid (boxN_below X3.out hb2); have B5 := Lib.hid (B3.out.trans (hb2.mono B3.out.size)); obtain ⟨⟨c0, c1, c2, c3, c4, c5⟩, f0, f1, f2, f3, f4, f5⟩ := boxN6 X5.out; clear hb hb2))
  go_wp2_with fail
  exact bodyPost_ret (v := .agg #[.int .u64 x, .int .u64 y, .int .u64 x, .int .i64 pm, .int .i64 (-1), .bool true]) (by simp [results, Try.results12, go_sem, c0, c1, c2, c3, c4, c5]) rfl ⟨rfl, below_set6 B5.out HP.out⟩
theorem rpart_any (v0 v1 v3 v4 v5 v6 : Value) (ga : Option Addr) (m gc : Nat) (l : List Seg) (base : Int) (k : Nat) (s : Seg) (x y pm : Int) (w : World) (hm : l.length = m) (hg : RdG w ga l) (hk : k < m) (hm8 : m < 9223372036854775808) (hs : l[k]? = some s)
    (hb0 : 0 ≤ base) (hp0 : 0 ≤ s.place) (hz0 : 0 ≤ s.size) (hx : base + s.place = x) (hy : x + s.size = y) (hyy : y < 18446744073709551616) (hf0 : 0 ≤ s.flags) (hf7 : s.flags ≤ 7) (hpm : permF s.flags = pm) (hp : 0 ≤ pm ∧ pm ≤ 255) :
    Calls Try.prog 13 #[.agg #[v0, v1, .slice ga m gc, v3, v4, v5, v6], .int .u64 base, .int .i64 (k : Int)] w fun e w' => e = .returned (.agg #[.int .u64 x, .int .u64 y, .int .u64 x, .int .i64 pm, .int .i64 (-1), .bool true]) ∧ Below w.heap.size w w' := by
  have hkl : k < l.length := by rw [hm]; exact hk
  have hsk : l[k] = s := by rw [List.getElem?_eq_getElem hkl] at hs; exact Option.some.inj hs
  obtain ⟨pl, sz, fl, bys, ba, bc⟩ := s
  simp only at hp0 hz0 hx hy hf0 hf7 hpm
  have C1 := Lib.hid (fun w => rperms_any fl hf0 hf7 w)
  rw [hpm] at C1
  obtain ⟨g, off, hge, hgl, c0, c1, c2, c3⟩ := (hg.below (bAlloc (bAlloc (Below.refl _ _) (.cells #[v0, v1, .slice ga m gc, v3, v4, v5, v6] 28)) (.cells #[.int .u64 0, .int .u64 0, .int .u64 0, .int .i64 0, .int .i64 0, .bool false] 34))).at_ hkl
  subst hge
  rw [hsk] at c0 c1 c2 c3
  simp only at c0 c1 c2 c3
  have w1 : IntKind.u64.wrap (base + pl) = x := by rw [IntKind.wrap_u64]; omega
  have w2 : IntKind.u64.wrap (x + sz) = y := by rw [IntKind.wrap_u64]; omega
  have kk0 : (0 : Int) ≤ (k : Int) := by omega
  have kk1 : (k : Int) < (m : Int) := by omega
  have kd1 : decide ((m : Int) ≤ (k : Int)) = false := decide_eq_false (by omega)
  clear hm hg hk hs hkl hsk hp0 hz0 hx hy hyy hf0 hf7 hpm hp hb0 hgl
  go_enter Try.func13, Try.ntmps13
  go_upto_region 3 with fail
  obtain ⟨W3, hW3⟩ : ∃ W, ((w.alloc (.cells #[v0, v1, .slice (some ⟨g, off, none⟩) m gc, v3, v4, v5, v6] 28)).alloc (.cells #[.int .u64 0, .int .u64 0, .int .u64 0, .int .i64 0, .int .i64 0, .bool false] 34)).alloc (.cells #[.int .u64 pl, .int .u64 sz, .int .i64 fl, .slice ba bys.length bc] 40) = W := ⟨_, rfl⟩
  rw [hW3]
  have B3 : Hid (Below w.heap.size w W3) := Lib.hid (by rw [← hW3]; exact bAlloc (bAlloc (bAlloc (Below.refl _ _) _) _) _)
  have X3 : Hid (BoxN W3 (w.heap.size + 1) #[.int .u64 0, .int .u64 0, .int .u64 0, .int .i64 0, .int .i64 0, .bool false]) := Lib.hid (by
    rw [← hW3]
    have h := BoxN.new (w.alloc (.cells #[v0, v1, .slice (some ⟨g, off, none⟩) m gc, v3, v4, v5, v6] 28)) #[.int .u64 0, .int .u64 0, .int .u64 0, .int .i64 0, .int .i64 0, .bool false] 34
    rw [size_alloc] at h
    exact boxN_below h (bAlloc (Below.refl _ _) _))
  have S3 : Hid (BoxN W3 (w.heap.size + 1 + 1) #[.int .u64 pl, .int .u64 sz, .int .i64 fl, .slice ba bys.length bc]) := Lib.hid (by
    rw [← hW3]
    have h := BoxN.new ((w.alloc (.cells #[v0, v1, .slice (some ⟨g, off, none⟩) m gc, v3, v4, v5, v6] 28)).alloc (.cells #[.int .u64 0, .int .u64 0, .int .u64 0, .int .i64 0, .int .i64 0, .bool false] 34)) #[.int .u64 pl, .int .u64 sz, .int .i64 fl, .slice ba bys.length bc] 40
    rw [size_alloc, size_alloc] at h
    exact h)
  clear hW3 c0 c1 c2 c3
  obtain ⟨P, hP⟩ : ∃ P, w.heap.size + 1 = P := ⟨_, rfl⟩
  have HP : Hid (w.heap.size ≤ P) := Lib.hid (by omega)
  rw [hP] at X3 S3 ⊢
  clear hP
  have s0 : W3.cell? ⟨P + 1, 0, none⟩ = some (.int .u64 pl) := S3.out.cell 0
  have s1 : W3.cell? ⟨P + 1, 1, none⟩ = some (.int .u64 sz) := S3.out.cell 1
  have s2 : W3.cell? ⟨P + 1, 2, none⟩ = some (.int .i64 fl) := S3.out.cell 2
  have HS0 := Lib.hid (And.intro s0 (And.intro s1 s2))
  have HSd : Hid (W3.drew.cell? ⟨P + 1, 0, none⟩ = some (.int .u64 pl) ∧ W3.drew.cell? ⟨P + 1, 1, none⟩ = some (.int .u64 sz) ∧ W3.drew.cell? ⟨P + 1, 2, none⟩ = some (.int .i64 fl)) := Lib.hid HS0.out
  clear s0 s1 s2
  obtain ⟨⟨c0, c1, c2, c3, c4, c5⟩, f0, f1, f2, f3, f4, f5⟩ := boxN6 X3.out
  have hne : P ≠ P + 1 := by omega
  have HSk : Hid (((((((W3.setCell ⟨P, 0, none⟩ (.int .u64 x)).setCell ⟨P, 1, none⟩ (.int .u64 y)).setCell ⟨P, 2, none⟩ (.int .u64 x)).setCell ⟨P, 3, none⟩ (.int .i64 pm)).setCell ⟨P, 4, none⟩ (.int .i64 (-1))).setCell ⟨P, 5, none⟩ (.bool true)).drew.cell? ⟨P + 1, 0, none⟩ = some (.int .u64 pl) ∧ ((((((W3.setCell ⟨P, 0, none⟩ (.int .u64 x)).setCell ⟨P, 1, none⟩ (.int .u64 y)).setCell ⟨P, 2, none⟩ (.int .u64 x)).setCell ⟨P, 3, none⟩ (.int .i64 pm)).setCell ⟨P, 4, none⟩ (.int .i64 (-1))).setCell ⟨P, 5, none⟩ (.bool true)).drew.cell? ⟨P + 1, 1, none⟩ = some (.int .u64 sz) ∧ ((((((W3.setCell ⟨P, 0, none⟩ (.int .u64 x)).setCell ⟨P, 1, none⟩ (.int .u64 y)).setCell ⟨P, 2, none⟩ (.int .u64 x)).setCell ⟨P, 3, none⟩ (.int .i64 pm)).setCell ⟨P, 4, none⟩ (.int .i64 (-1))).setCell ⟨P, 5, none⟩ (.bool true)).drew.cell? ⟨P + 1, 2, none⟩ = some (.int .i64 fl)) :=
    Lib.hid (drew3 ⟨(cell_set6 _ _ _ _ _ _ _ hne).trans HS0.out.1, (cell_set6 _ _ _ _ _ _ _ hne).trans HS0.out.2.1, (cell_set6 _ _ _ _ _ _ _ hne).trans HS0.out.2.2⟩)
  go_region_held3 (fun W => W.cell? ⟨P + 1, 0, none⟩ = some (.int .u64 pl) ∧ W.cell? ⟨P + 1, 1, none⟩ = some (.int .u64 sz) ∧ W.cell? ⟨P + 1, 2, none⟩ = some (.int .i64 fl))
    (first | with_reducible exact HSd.out | with_reducible exact HSk.out | go_keep)
    (first | (go_at_call 9; refine (C1.out _).mono ?_; rintro e w4 ⟨rfl, rfl⟩))
  go_wp2_with fail
  exact bodyPost_ret (v := .agg #[.int .u64 x, .int .u64 y, .int .u64 x, .int .i64 pm, .int .i64 (-1), .bool true]) (by simp [results, Try.results13, go_sem, c0, c1, c2, c3, c4, c5]) rfl ⟨rfl, Below.drew (below_set6 B3.out HP.out)⟩

/-! An object's own segment: the first one that may be written. -/
def ownB (s : Seg) : Bool := s.flags == 2 || s.flags == 3
theorem own1_any (s : Seg) (h1 : 1 ≤ s.flags) (h5 : s.flags ≤ 5) (w : World) :
    Calls Try.prog 23 #[.agg #[.int .u64 s.place, .int .u64 s.size, .int .i64 s.flags, .slice s.ba s.bytes.length s.bc]] w fun e w' => e = .returned (.bool (ownB s)) ∧ Below w.heap.size w w' := by
  obtain ⟨pl, sz, fl, bys, ba, bc⟩ := s
  simp only at h1 h5
  unfold ownB
  rcases (show fl = 1 ∨ fl = 2 ∨ fl = 3 ∨ fl = 4 ∨ fl = 5 by omega) with rfl | rfl | rfl | rfl | rfl
  all_goals
    go_enter Try.func23, Try.ntmps23
    go_wp2_with fail
    go_ret
    exact ⟨rfl, bAlloc (Below.refl _ _) _⟩
theorem idxOwn (a : Option Addr) (m c : Nat) (l : List Seg) (p : Seg → Bool) (w : World) (hm : l.length = m) (hg : RdG w a l) (hl : m < 9223372036854775808)
    (hf : ∀ W, Below w.heap.size w W → ∀ x ∈ l, Calls Try.prog 23 #[.agg #[.int .u64 x.place, .int .u64 x.size, .int .i64 x.flags, .slice x.ba x.bytes.length x.bc]] W fun e W' => e = .returned (.bool (p x)) ∧ Below W.heap.size W W') :
    Calls Try.prog 22 #[.slice a m c, .func (.func 23) #[] #[]] w fun e w' => e = .returned (.int .i64 (firstI p l)) ∧ Below w.heap.size w w' := by
  obtain ⟨r, hr⟩ : ∃ r, firstI p l = r := ⟨_, rfl⟩
  rw [hr]
  have HR := Lib.hid hr
  have HM := Lib.hid hm
  have HG := Lib.hid hg
  have HF := Lib.hid hf
  clear hr hm hg hf
  go_enter Try.func22, Try.ntmps22
  go_wp2_with fail
  go_loopw [8] (fun i wr => ∃ k : Nat, i = .int .i64 k ∧ k ≤ m ∧ Hid (∀ j (h : j < l.length), j < k → p l[j] = false) ∧ Hid (Below w.heap.size w wr)) (fun i _ => m - (intOf i).toNat)
  case atStart => exact ⟨0, rfl, by omega, Lib.hid (fun j h h0 => absurd h0 (by omega)), Lib.hid (Below.refl _ _)⟩
  case round =>
    obtain ⟨k, rfl, hk, HQ, HB⟩ := hrel
    by_cases hlt : k < m
    · have hkl : k < l.length := by rw [HM.out]; exact hlt
      obtain ⟨g, off, hge, -, hc⟩ := (HG.out.below HB.out).at_ hkl
      subst hge
      have hcall := HF.out wr HB.out _ (List.getElem_mem hkl)
      obtain ⟨x, hx⟩ : ∃ x, l[k] = x := ⟨_, rfl⟩
      have hst : p x = false → ∀ j (h : j < l.length), j < k + 1 → p l[j] = false := fun h j hj hj2 => by
        by_cases e : j = k
        · subst e; rw [hx]; exact h
        · exact HQ.out j hj (by omega)
      have hhit : p x = true → (k : Int) = r := fun h => by
        rw [← HR.out]
        exact (firstI_some hkl (by rw [hx]; exact h) (fun j hj => HQ.out j (by omega) hj)).symm
      rw [hx] at hcall hc
      obtain ⟨c0, c1, c2, c3⟩ := hc
      obtain ⟨e0, he0⟩ : ∃ e, x.place = e := ⟨_, rfl⟩
      rw [he0] at hcall c0
      clear he0
      obtain ⟨e1, he1⟩ : ∃ e, x.size = e := ⟨_, rfl⟩
      rw [he1] at hcall c1
      clear he1
      obtain ⟨e2, he2⟩ : ∃ e, x.flags = e := ⟨_, rfl⟩
      rw [he2] at hcall c2
      clear he2
      obtain ⟨e3, he3⟩ : ∃ e, x.ba = e := ⟨_, rfl⟩
      rw [he3] at hcall c3
      clear he3
      obtain ⟨e4, he4⟩ : ∃ e, x.bytes.length = e := ⟨_, rfl⟩
      rw [he4] at hcall c3
      clear he4
      obtain ⟨e5, he5⟩ : ∃ e, x.bc = e := ⟨_, rfl⟩
      rw [he5] at hcall c3
      clear he5
      have HST := Lib.hid hst
      have HHI := Lib.hid hhit
      obtain ⟨q, hq⟩ : ∃ q, p x = q := ⟨_, rfl⟩
      rw [hq] at hcall HST HHI
      have HC := Lib.hid hcall
      have kk0 : (0 : Int) ≤ (k : Int) := by omega
      have kk1 : (k : Int) < (m : Int) := by omega
      clear hst hhit hkl hx hq hcall
      go_wp2_with fail
      refine HC.out.mono ?_; rintro e w' ⟨rfl, hb'⟩
      have HB' := Lib.hid (bTrans HB.out hb')
      clear hb'
      cases q with
      | true =>
        have hkr := HHI.out rfl
        subst hkr
        go_wp2_with fail
        go_ret
        exact ⟨rfl, HB'.out⟩
      | false =>
        have HN1 := Lib.hid (HST.out rfl)
        go_wp2_with fail
        go_roundw
        case rel => exact ⟨k + 1, by go_num, by omega, HN1, HB'⟩
        case measure => simp [intOf]; omega
    · have hk2 : k = m := by omega
      subst hk2
      have hn1 : (-1 : Int) = r := by
        rw [← HR.out]
        exact (firstI_none (fun j h => HQ.out j h (by rw [HM.out] at h; exact h))).symm
      subst hn1
      go_wp2_with fail
      go_ret
      exact ⟨rfl, HB.out⟩
structure SegsOk (l : List Seg) : Prop where
  fl : ∀ s ∈ l, 1 ≤ s.flags ∧ s.flags ≤ 5
  pz : ∀ s ∈ l, 0 ≤ s.place ∧ 0 ≤ s.size ∧ s.place + s.size ≤ 16384
theorem segs_ok {l : List Seg} (h : segsB 0 l = true) : SegsOk l := by
  have hh : ∀ s ∈ l, s.place % 256 = 0 ∧ 1 ≤ s.size ∧ s.size ≤ 2048 ∧ s.place + s.size ≤ 16384 ∧ 1 ≤ s.flags ∧ s.flags ≤ 5 := fun s hs => by
    obtain ⟨i, hi, rfl⟩ := List.getElem_of_mem hs
    exact (segs_at h i hi).1
  have hp : ∀ (f : Int) (l : List Seg), 0 ≤ f → segsB f l = true → ∀ s ∈ l, 0 ≤ s.place := by
    intro f l
    induction l generalizing f with
    | nil => intro _ _ s hs; cases hs
    | cons a r ih =>
      intro hf hb s hs
      simp only [segsB, Bool.and_eq_true] at hb
      have h1 := hb.1
      simp only [segB, Bool.and_eq_true, decide_eq_true_eq] at h1
      rcases List.mem_cons.1 hs with rfl | hs
      · omega
      · refine ih (upP (a.place + a.size)) ?_ hb.2 s hs
        unfold upP
        omega
  exact ⟨fun s hs => ⟨(hh s hs).2.2.2.2.1, (hh s hs).2.2.2.2.2⟩, fun s hs => ⟨hp 0 l (Int.le_refl _) h s hs, by have := (hh s hs).2.1; omega, (hh s hs).2.2.2.1⟩⟩
/-- what one's own data is: from where, up to where, what may be done -/
def ownF (l : List Seg) (base : Int) : Int × Int × Int := match l[(firstI ownB l).toNat]? with
  | some s => if 0 ≤ firstI ownB l then (base + s.place, base + s.place + s.size, permF s.flags + 128) else (base, base, 129)
  | none => (base, base, 129)
theorem permF_in (f : Int) : 0 ≤ permF f ∧ permF f ≤ 31 := by
  unfold permF
  split <;> split <;> split <;> omega
theorem own_or (s : Seg) (h : ownB s = true) : bits .or .i64 (permF s.flags) 128 = permF s.flags + 128 ∧ IntKind.i64.wrap (permF s.flags + 128) = permF s.flags + 128 := by
  unfold ownB at h
  rw [Bool.or_eq_true, beq_iff_eq, beq_iff_eq] at h
  rcases h with h | h <;> rw [h] <;> decide
theorem firstI_at {α : Type} {p : α → Bool} {l : List α} (h : 0 ≤ firstI p l) : ∃ k : Nat, ∃ hk : k < l.length, firstI p l = (k : Int) ∧ p l[k] = true := by
  unfold firstI at h ⊢
  cases e : l.findIdx? p with
  | none => rw [e] at h; simp at h
  | some i =>
    obtain ⟨hi, hp, -⟩ := List.findIdx?_eq_some_iff_getElem.1 e
    exact ⟨i, hi, rfl, hp⟩
theorem own_any (v0 v1 v3 v4 v5 v6 : Value) (ga : Option Addr) (m gc : Nat) (l : List Seg) (base x y pm : Int) (w : World) (hm : l.length = m) (hg : RdG w ga l) (hm8 : m < 9223372036854775808) (hok : SegsOk l) (hb0 : 0 ≤ base) (hb1 : base < 4294967296) (ho : ownF l base = (x, y, pm)) :
    Calls Try.prog 10 #[.agg #[v0, v1, .slice ga m gc, v3, v4, v5, v6], .int .u64 base] w fun e w' => e = .returned (.agg #[.int .u64 x, .int .u64 y, .int .u64 x, .int .i64 pm, .int .i64 (-1), .bool true]) ∧ Below w.heap.size w w' := by
  have CI := Lib.hid (fun w2 (h : Below w.heap.size w w2) => idxOwn ga m gc l ownB w2 hm (hg.below h) hm8 (fun W h2 s hs => own1_any s (hok.fl s hs).1 (hok.fl s hs).2 W))
  have CP := Lib.hid (fun w2 (h : Below w.heap.size w w2) k s x y pm hk hs => part_any v0 v1 v3 v4 v5 v6 ga m gc l base k s x y pm w2 hm (hg.below h) hk hm8 hs hb0)
  obtain ⟨r, hr⟩ : ∃ r, firstI ownB l = r := ⟨_, rfl⟩
  have hrl := firstI_lt ownB l
  have hhit := firstI_at (p := ownB) (l := l)
  unfold ownF at ho
  rw [hr] at CI hrl hhit ho
  have CO := Lib.hid (fun w => over_any base 0 base 129 w hb0 (by decide) (by omega) (by omega) (by decide) (by decide))
  go_enter Try.func10, Try.ntmps10
  by_cases h0 : r < 0
  · have e : (base, base, 129) = (x, y, pm) := by
      rw [← ho]
      split
      · rw [if_neg (by omega)]
      · rfl
    obtain ⟨rfl, e2⟩ := Prod.mk.inj e
    obtain ⟨rfl, rfl⟩ := Prod.mk.inj e2
    clear e e2 ho hhit hrl hr hok hg hm hb0 hb1
    go_wp2_with fail
    refine (CI.out _ (bAlloc (bAlloc (Below.refl _ _) _) _)).mono ?_; rintro e w2 ⟨rfl, hb⟩
    have X2 : Hid (BoxN w2 (w.heap.size + 1) #[.int .u64 0, .int .u64 0, .int .u64 0, .int .i64 0, .int .i64 0, .bool false]) := Lib.hid (by
      have h := BoxN.new (w.alloc (.cells #[v0, v1, .slice ga m gc, v3, v4, v5, v6] 28)) #[.int .u64 0, .int .u64 0, .int .u64 0, .int .i64 0, .int .i64 0, .bool false] 34
      rw [size_alloc] at h
      exact boxN_below h hb)
    have B2 := Lib.hid ((bAlloc (bAlloc (Below.refl w.heap.size w) (.cells #[v0, v1, .slice ga m gc, v3, v4, v5, v6] 28)) (.cells #[.int .u64 0, .int .u64 0, .int .u64 0, .int .i64 0, .int .i64 0, .bool false] 34)).trans (hb.mono (by rw [size_alloc, size_alloc]; omega)))
    clear hb
    go_wp2_with fail
    refine (CO.out _).mono ?_; rintro e w3 ⟨rfl, hb⟩
    have X3 := Lib.hid (boxN_below X2.out hb)
    have B3 := Lib.hid (B2.out.trans (hb.mono B2.out.size))
    clear hb
    obtain ⟨⟨c0, c1, c2, c3, c4, c5⟩, f0, f1, f2, f3, f4, f5⟩ := boxN6 X3.out
    go_wp2_with fail
    exact bodyPost_ret (v := .agg #[.int .u64 base, .int .u64 base, .int .u64 base, .int .i64 129, .int .i64 (-1), .bool true]) (by simp [results, Try.results10, go_sem, c0, c1, c2, c3, c4, c5]) rfl ⟨rfl, below_set6 B3.out (Nat.le_succ _)⟩
  · obtain ⟨k, hk, rfl, hpk⟩ := hhit (by omega)
    have hsk : l[k]? = some l[k] := List.getElem?_eq_getElem hk
    rw [Int.toNat_natCast, hsk] at ho
    simp only [if_pos (show (0 : Int) ≤ (k : Int) by omega)] at ho
    obtain ⟨hx, e2⟩ := Prod.mk.inj ho
    obtain ⟨hy, hpm⟩ := Prod.mk.inj e2
    have hf := hok.fl _ (List.getElem_mem hk)
    have hz := hok.pz _ (List.getElem_mem hk)
    have hpi := permF_in l[k].flags
    obtain ⟨hor, -⟩ := own_or _ hpk
    have C := Lib.hid (fun w2 h => CP.out w2 h k l[k] x y (permF l[k].flags) (by rw [← hm]; exact hk) hsk hz.1 hz.2.1 hx (by rw [← hx]; exact hy) (by omega) (by omega) (by omega) rfl (by omega))
    obtain ⟨q, hq⟩ : ∃ q, permF l[k].flags = q := ⟨_, rfl⟩
    rw [hq] at C hor hpm
    rw [hpm] at hor
    clear hq e2 ho hhit hrl hr hok hg hm hb0 hb1 CP hx hy hpm hf hz hpi hpk hsk hk
    go_wp2_with fail
    refine (CI.out _ (bAlloc (bAlloc (Below.refl _ _) _) _)).mono ?_; rintro e w2 ⟨rfl, hb⟩
    have X2 : Hid (BoxN w2 (w.heap.size + 1) #[.int .u64 0, .int .u64 0, .int .u64 0, .int .i64 0, .int .i64 0, .bool false]) := Lib.hid (by
      have h := BoxN.new (w.alloc (.cells #[v0, v1, .slice ga m gc, v3, v4, v5, v6] 28)) #[.int .u64 0, .int .u64 0, .int .u64 0, .int .i64 0, .int .i64 0, .bool false] 34
      rw [size_alloc] at h
      exact boxN_below h hb)
    have O2 : Hid (BoxN w2 w.heap.size #[v0, v1, .slice ga m gc, v3, v4, v5, v6]) := Lib.hid (boxN_below (boxN_below (BoxN.new w #[v0, v1, .slice ga m gc, v3, v4, v5, v6] 28) (bAlloc (Below.refl _ _) _)) hb)
    have B2 := Lib.hid ((bAlloc (bAlloc (Below.refl w.heap.size w) (.cells #[v0, v1, .slice ga m gc, v3, v4, v5, v6] 28)) (.cells #[.int .u64 0, .int .u64 0, .int .u64 0, .int .i64 0, .int .i64 0, .bool false] 34)).trans (hb.mono (by rw [size_alloc, size_alloc]; omega)))
    clear hb
    have o0 := O2.out.cell 0
    have o1 := O2.out.cell 1
    have o2 := O2.out.cell 2
    have o3 := O2.out.cell 3
    have o4 := O2.out.cell 4
    have o5 := O2.out.cell 5
    have o6 := O2.out.cell 6
    go_wp2_with fail
    refine (C.out w2 B2.out).mono ?_; rintro e w3 ⟨rfl, hb⟩
    have X3 := Lib.hid (boxN_below X2.out hb)
    have B3 := Lib.hid (B2.out.trans (hb.mono B2.out.size))
    clear hb o0 o1 o2 o3 o4 o5 o6 O2
    have hlt := X3.out.lt
    obtain ⟨P, hP⟩ : ∃ P, w.heap.size + 1 = P := ⟨_, rfl⟩
    have HP : Hid (w.heap.size ≤ P) := Lib.hid (by omega)
    rw [hP] at X3 X2 hlt ⊢
    clear hP
    obtain ⟨⟨c0, c1, c2, c3, c4, c5⟩, f0, f1, f2, f3, f4, f5⟩ := boxN6 X3.out
    have hne : P ≠ w3.heap.size := by omega
    go_wp2_with fail
    exact bodyPost_ret (v := .agg #[.int .u64 x, .int .u64 y, .int .u64 x, .int .i64 pm, .int .i64 (-1), .bool true]) (by simp [results, Try.results10, go_sem, c0, c1, c2, c3, c4, c5, hlt]) rfl ⟨rfl, bAlloc (below_set6 B3.out HP.out) _⟩
theorem rown_any (v0 v1 v3 v4 v5 v6 : Value) (ga : Option Addr) (m gc : Nat) (l : List Seg) (base x y pm : Int) (w : World) (hm : l.length = m) (hg : RdG w ga l) (hm8 : m < 9223372036854775808) (hok : SegsOk l) (hb0 : 0 ≤ base) (hb1 : base < 4294967296) (ho : ownF l base = (x, y, pm)) :
    Calls Try.prog 11 #[.agg #[v0, v1, .slice ga m gc, v3, v4, v5, v6], .int .u64 base] w fun e w' => e = .returned (.agg #[.int .u64 x, .int .u64 y, .int .u64 x, .int .i64 pm, .int .i64 (-1), .bool true]) ∧ Below w.heap.size w w' := by
  have CP := Lib.hid (fun w2 (h : Below w.heap.size w w2) k s x y pm hk hs => rpart_any v0 v1 v3 v4 v5 v6 ga m gc l base k s x y pm w2 hm (hg.below h) hk hm8 hs hb0)
  have HM := Lib.hid hm
  have HG := Lib.hid hg
  have HOK := Lib.hid hok
  have HB0 := Lib.hid (And.intro hb0 hb1)
  have HOW := Lib.hid ho
  clear hm hg hok hb0 hb1 ho
  go_enter Try.func11, Try.ntmps11
  go_upto_region 1 with fail
  obtain ⟨W1, hW1⟩ : ∃ W, (w.alloc (.cells #[v0, v1, .slice ga m gc, v3, v4, v5, v6] 28)).alloc (.cells #[.int .u64 0, .int .u64 0, .int .u64 0, .int .i64 0, .int .i64 0, .bool false] 34) = W := ⟨_, rfl⟩
  rw [hW1]
  have B1 : Hid (Below w.heap.size w W1) := Lib.hid (by rw [← hW1]; exact bAlloc (bAlloc (Below.refl _ _) _) _)
  have X1 : Hid (BoxN W1 (w.heap.size + 1) #[.int .u64 0, .int .u64 0, .int .u64 0, .int .i64 0, .int .i64 0, .bool false]) := Lib.hid (by
    rw [← hW1]
    have h := BoxN.new (w.alloc (.cells #[v0, v1, .slice ga m gc, v3, v4, v5, v6] 28)) #[.int .u64 0, .int .u64 0, .int .u64 0, .int .i64 0, .int .i64 0, .bool false] 34
    rw [size_alloc] at h
    exact h)
  have O1 : Hid (BoxN W1 w.heap.size #[v0, v1, .slice ga m gc, v3, v4, v5, v6]) := Lib.hid (by
    rw [← hW1]
    exact boxN_below (BoxN.new w #[v0, v1, .slice ga m gc, v3, v4, v5, v6] 28) (bAlloc (Below.refl _ _) _))
  clear hW1
  obtain ⟨P, hP⟩ : ∃ P, w.heap.size + 1 = P := ⟨_, rfl⟩
  have HP : Hid (w.heap.size ≤ P) := Lib.hid (by omega)
  rw [hP] at X1 ⊢
  clear hP
  obtain ⟨⟨c0, c1, c2, c3, c4, c5⟩, f0, f1, f2, f3, f4, f5⟩ := boxN6 X1.out
  have o0 := O1.out.cell 0
  have o1 := O1.out.cell 1
  have o2 := O1.out.cell 2
  have o3 := O1.out.cell 3
  have o4 := O1.out.cell 4
  have o5 := O1.out.cell 5
  have o6 := O1.out.cell 6
  go_wp2_with fail
  go_loopw [5, 6, 7] (fun i _ _ wr => ∃ k : Nat, i = .int .i64 k ∧ k ≤ m ∧ Hid (∀ j (h : j < l.length), j < k → ownB l[j] = false) ∧ W1 = wr) (fun i _ _ _ => m - (intOf i).toNat)
  case atStart => exact ⟨0, rfl, by omega, Lib.hid (fun j h h0 => absurd h0 (by omega)), rfl⟩
  case round =>
    obtain ⟨k, rfl, hk, HQ, rfl⟩ := hrel
    by_cases hlt : k < m
    · have hkl : k < l.length := by rw [HM.out]; exact hlt
      obtain ⟨g, off, hge, -, d0, d1, d2, d3⟩ := (HG.out.below B1.out).at_ hkl
      have hf := HOK.out.fl _ (List.getElem_mem hkl)
      have hz := HOK.out.pz _ (List.getElem_mem hkl)
      have hst : ownB l[k] = false → ∀ j (h : j < l.length), j < k + 1 → ownB l[j] = false := fun h j hj hj2 => by
        by_cases e : j = k
        · subst e; exact h
        · exact HQ.out j hj (by omega)
      have kk0 : (0 : Int) ≤ (k : Int) := by omega
      have kk1 : (k : Int) < (m : Int) := by omega
      by_cases hp : ownB l[k] = true
      · have hfi : firstI ownB l = (k : Int) := firstI_some hkl hp (fun j hj => HQ.out j (by omega) hj)
        have hsk : l[k]? = some l[k] := List.getElem?_eq_getElem hkl
        have ho := HOW.out
        unfold ownF at ho
        rw [hfi, Int.toNat_natCast, hsk] at ho
        simp only [if_pos kk0] at ho
        obtain ⟨hx, e2⟩ := Prod.mk.inj ho
        obtain ⟨hy, hpm⟩ := Prod.mk.inj e2
        have hpi := permF_in l[k].flags
        obtain ⟨-, hor⟩ := own_or _ hp
        have C := Lib.hid (CP.out W1 B1.out k l[k] x y (permF l[k].flags) hlt hsk hz.1 hz.2.1 hx (by rw [← hx]; exact hy) (by have := HB0.out; omega) (by omega) (by omega) rfl (by omega))
        unfold ownB at hp
        rw [Bool.or_eq_true, beq_iff_eq, beq_iff_eq] at hp
        have hp2 : l[k].flags = 2 ∨ l[k].flags = 3 := hp
        obtain ⟨q, hq⟩ : ∃ q, permF l[k].flags = q := ⟨_, rfl⟩
        rw [hq] at C hor hpm
        obtain ⟨fl, hfl⟩ : ∃ f, l[k].flags = f := ⟨_, rfl⟩
        rw [hfl] at d2 hp2
        have hor2 : IntKind.i64.wrap (q + 128) = pm := by rw [hor, hpm]
        clear hfi hsk ho hx e2 hy hpm hpi hor hp hq hfl hst hf hz hkl d0 d1 d3 hlt hk
        subst hge
        rcases hp2 with rfl | rfl
        all_goals
          go_wp2_with fail
          refine C.out.mono ?_; rintro e w3 ⟨rfl, hb⟩
          have X3 := Lib.hid (boxN_below X1.out hb)
          have B3 := Lib.hid (B1.out.trans (hb.mono B1.out.size))
          clear hb c0 c1 c2 c3 c4 c5 f0 f1 f2 f3 f4 f5 o0 o1 o2 o3 o4 o5 o6 d2
          have hlt := X3.out.lt
          have hne : P ≠ w3.heap.size := by omega
          obtain ⟨⟨c0, c1, c2, c3, c4, c5⟩, f0, f1, f2, f3, f4, f5⟩ := boxN6 X3.out
          go_wp2_with fail
          exact bodyPost_ret (v := .agg #[.int .u64 x, .int .u64 y, .int .u64 x, .int .i64 pm, .int .i64 (-1), .bool true]) (by simp [results, Try.results11, go_sem, c0, c1, c2, c3, c4, c5, hlt]) rfl ⟨rfl, bAlloc (below_set6 B3.out HP.out) _⟩
      · have HN1 := Lib.hid (hst (Bool.eq_false_iff.2 hp))
        unfold ownB at hp
        rw [Bool.or_eq_true, beq_iff_eq, beq_iff_eq] at hp
        obtain ⟨fl, hfl⟩ : ∃ f, l[k].flags = f := ⟨_, rfl⟩
        rw [hfl] at d2 hp
        have n2 : (fl == 2) = false := beq_eq_false_iff_ne.2 (by omega)
        have n3 : (fl == 3) = false := beq_eq_false_iff_ne.2 (by omega)
        clear hst hf hz hfl hp d0 d1 d3
        subst hge
        go_wp2_with fail
        go_roundw
        case rel => exact ⟨k + 1, by go_num, by omega, HN1, trivial⟩
        case measure => simp [intOf]; omega
    · obtain rfl : k = m := by omega
      have hfi : firstI ownB l = -1 := firstI_none (fun j h => HQ.out j h (by rw [HM.out] at h; exact h))
      have ho := HOW.out
      unfold ownF at ho
      rw [hfi] at ho
      have e : (base, base, 129) = (x, y, pm) := by
        rw [← ho]
        split <;> rfl
      obtain ⟨rfl, e2⟩ := Prod.mk.inj e
      obtain ⟨rfl, rfl⟩ := Prod.mk.inj e2
      clear e e2 ho hfi
      go_wp2_with fail
      exact bodyPost_ret (v := .agg #[.int .u64 base, .int .u64 base, .int .u64 base, .int .i64 129, .int .i64 (-1), .bool true]) (by simp [results, Try.results11, go_sem, c0, c1, c2, c3, c4, c5]) rfl ⟨rfl, below_set6 B1.out HP.out⟩
end Go.Proofs.Yteaididdamihlaa.Ce
