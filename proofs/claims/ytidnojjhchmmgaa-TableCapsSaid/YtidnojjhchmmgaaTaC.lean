/- A symbol's bytes, and a function's pair: the program's and the document's. -/
import Derived.Test.YtidnojjhchmmgaaTaB
namespace Go.Proofs.Ytidnojjhchmmgaa
set_option linter.unusedVariables false
set_option linter.unusedSimpArgs false
open Go.Joins Go.ChangeShapes Go.WideShapes Go.ChangeAt Go.RowKit Go.Deep

/-- a symbol's bytes lie in the segment k -/
structure SymIn (l : List Seg) (sp sz : Int) (k : Nat) (g : Seg) : Prop where
  at_ : atF l sp sz = (k : Int)
  get : l[k]? = some g
  lo : g.place ≤ sp
  hi : sp + sz ≤ g.place + g.size
  sp : u64B sp
  sz : u64B sz
theorem atF_ok {l : List Seg} (h : SegsOk l) {x n : Int} (hx : u64B x) (hn : u64B n) (h0 : 0 ≤ atF l x n) : ∃ k g, SymIn l x n k g := by
  obtain ⟨k, hk, e, hp⟩ := firstI_at (p := fun s => hasB s x n) (l := l) h0
  simp only [hasB, Bool.and_eq_true, decide_eq_true_eq] at hp
  exact ⟨k, l[k], e, List.getElem?_eq_getElem hk, hp.1, by omega, hx, hn⟩
theorem SegsOk.u64 {l : List Seg} (h : SegsOk l) : ∀ s ∈ l, u64B s.place ∧ u64B s.size := fun s hs => by
  have := h.pz s hs
  unfold u64B
  omega
theorem get_mem {α : Type} {l : List α} {k : Nat} {g : α} (h : l[k]? = some g) : g ∈ l ∧ k < l.length := by
  obtain ⟨hk, rfl⟩ := List.getElem?_eq_some_iff.1 h
  exact ⟨List.getElem_mem hk, hk⟩
theorem has7_any (v0 v1 v2 v4 v5 v6 : Value) (sa : Option Addr) (ms sc : Nat) (k : Int) (w : World) :
    Calls Try.prog 16 #[.agg #[v0, v1, v2, .slice sa ms sc, v4, v5, v6], .int .i64 k] w fun e w' => e = .returned (.bool (decide (0 ≤ k) && decide (k < (ms : Int)))) ∧ Below w.heap.size w w' := by
  by_cases h : 0 ≤ k
  · have hd : decide (0 ≤ k) = true := decide_eq_true h
    go_enter Try.func16, Try.ntmps16
    go_wp2_with fail
    go_ret
    exact ⟨by first | rfl | (rw [hd, Bool.true_and]; rfl), bAlloc (Below.refl _ _) _⟩
  · have hd : decide (0 ≤ k) = false := decide_eq_false h
    go_enter Try.func16, Try.ntmps16
    go_wp2_with fail
    go_ret
    exact ⟨by first | rfl | (rw [hd, Bool.false_and]; rfl), bAlloc (Below.refl _ _) _⟩
set_option maxHeartbeats 1000000 in
theorem standing_any (v0 v1 v4 v5 v6 : Value) (ga sa : Option Addr) (m gc ms sc : Nat) (l : List Seg) (base : Int) (nm vr : List UInt8) (sp sz kd bd sn : Int) (df : Bool) (k : Nat) (g : Seg) (w : World) (hm : l.length = m) (hg : RdG w ga l) (hm8 : m < 9223372036854775808) (hok : SegsOk l) (hb0 : 0 ≤ base) (hb1 : base < 4294967296) (hi : SymIn l sp sz k g) (x y pm q : Int) (hx : base + g.place = x) (hy : x + g.size = y) (hpm : permF g.flags = pm) (hq : base + sp = q) :
    Calls Try.prog 19 #[.agg #[v0, v1, .slice ga m gc, .slice sa ms sc, v4, v5, v6], .int .u64 base, .agg #[.string ⟨nm.toArray⟩, .string ⟨vr.toArray⟩, .int .u64 sp, .int .u64 sz, .int .i64 kd, .int .i64 bd, .int .i64 sn, .bool df]] w fun e w' => e = .returned (.agg #[.int .u64 x, .int .u64 y, .int .u64 q, .int .i64 pm, .int .i64 (-1), .bool true]) ∧ Below w.heap.size w w' := by
  have hgm := get_mem hi.get
  have hz := hok.pz _ hgm.1
  have hfl := hok.fl _ hgm.1
  have hpi := permF_in g.flags
  have C1 := Lib.hid (fun w2 (h : Below w.heap.size w w2) => at_any v0 v1 (.slice sa ms sc) v4 v5 v6 ga m gc l sp sz w2 hm (hg.below h) hm8 hok.u64 hi.sp hi.sz)
  rw [hi.at_] at C1
  have C2 := Lib.hid (fun w2 (h : Below w.heap.size w w2) => part_any v0 v1 (.slice sa ms sc) v4 v5 v6 ga m gc l base k g x y pm w2 hm (hg.below h) (by rw [← hm]; exact hgm.2) hm8 hi.get hb0 hz.1 hz.2.1 hx hy (by omega) (by omega) (by omega) hpm (by omega))
  have C3 := Lib.hid (fun w2 => move_x x y x pm q w2)
  have w1 : IntKind.u64.wrap (base + sp) = q := by have := hi.hi; have := hi.sp; unfold u64B at this; have := hi.lo; have := hi.sz; unfold u64B at this; rw [IntKind.wrap_u64]; omega
  clear hgm hz hfl hpi hm hg hok hb0 hb1 hi hx hy hpm hq
  go_enter Try.func19, Try.ntmps19
  go_upto_region 1 with fail
  obtain ⟨W3, hW3⟩ : ∃ W, ((w.alloc (.cells #[v0, v1, .slice ga m gc, .slice sa ms sc, v4, v5, v6] 28)).alloc (.cells #[.string ⟨nm.toArray⟩, .string ⟨vr.toArray⟩, .int .u64 sp, .int .u64 sz, .int .i64 kd, .int .i64 bd, .int .i64 sn, .bool df] 35)).alloc (.cells #[.int .u64 0, .int .u64 0, .int .u64 0, .int .i64 0, .int .i64 0, .bool false] 37) = W := ⟨_, rfl⟩
  rw [hW3]
  have B3 : Hid (Below w.heap.size w W3) := Lib.hid (by rw [← hW3]; exact bAlloc (bAlloc (bAlloc (Below.refl _ _) _) _) _)
  have O3 : Hid (BoxN W3 w.heap.size #[v0, v1, .slice ga m gc, .slice sa ms sc, v4, v5, v6]) := Lib.hid (by rw [← hW3]; exact boxN_below (BoxN.new w #[v0, v1, .slice ga m gc, .slice sa ms sc, v4, v5, v6] 28) (bAlloc (bAlloc (Below.refl _ _) _) _))
  have S3 : Hid (BoxN W3 (w.heap.size + 1) #[.string ⟨nm.toArray⟩, .string ⟨vr.toArray⟩, .int .u64 sp, .int .u64 sz, .int .i64 kd, .int .i64 bd, .int .i64 sn, .bool df]) := Lib.hid (by
    rw [← hW3]
    have h := BoxN.new (w.alloc (.cells #[v0, v1, .slice ga m gc, .slice sa ms sc, v4, v5, v6] 28)) #[.string ⟨nm.toArray⟩, .string ⟨vr.toArray⟩, .int .u64 sp, .int .u64 sz, .int .i64 kd, .int .i64 bd, .int .i64 sn, .bool df] 35
    rw [size_alloc] at h
    exact boxN_below h (bAlloc (Below.refl _ _) _))
  have X3 : Hid (BoxN W3 (w.heap.size + 1 + 1) #[.int .u64 0, .int .u64 0, .int .u64 0, .int .i64 0, .int .i64 0, .bool false]) := Lib.hid (by
    rw [← hW3]
    have h := BoxN.new ((w.alloc (.cells #[v0, v1, .slice ga m gc, .slice sa ms sc, v4, v5, v6] 28)).alloc (.cells #[.string ⟨nm.toArray⟩, .string ⟨vr.toArray⟩, .int .u64 sp, .int .u64 sz, .int .i64 kd, .int .i64 bd, .int .i64 sn, .bool df] 35)) #[.int .u64 0, .int .u64 0, .int .u64 0, .int .i64 0, .int .i64 0, .bool false] 37
    rw [size_alloc, size_alloc] at h
    exact h)
  clear hW3
  obtain ⟨B, hB⟩ : ∃ B, w.heap.size = B := ⟨_, rfl⟩
  have HB := Lib.hid hB
  rw [hB] at O3 S3 X3 ⊢
  clear hB
  have o0 : W3.cell? ⟨B, 0, none⟩ = some (v0) := O3.out.cell 0
  have o1 : W3.cell? ⟨B, 1, none⟩ = some (v1) := O3.out.cell 1
  have o2 : W3.cell? ⟨B, 2, none⟩ = some (.slice ga m gc) := O3.out.cell 2
  have o3 : W3.cell? ⟨B, 3, none⟩ = some (.slice sa ms sc) := O3.out.cell 3
  have o4 : W3.cell? ⟨B, 4, none⟩ = some (v4) := O3.out.cell 4
  have o5 : W3.cell? ⟨B, 5, none⟩ = some (v5) := O3.out.cell 5
  have o6 : W3.cell? ⟨B, 6, none⟩ = some (v6) := O3.out.cell 6
  have s2 : W3.cell? ⟨B + 1, 2, none⟩ = some (.int .u64 sp) := S3.out.cell 2
  have s3 : W3.cell? ⟨B + 1, 3, none⟩ = some (.int .u64 sz) := S3.out.cell 3
  have HS0 := Lib.hid (And.intro (o0) (And.intro (o1) (And.intro (o2) (And.intro (o3) (And.intro (o4) (And.intro (o5) (And.intro (o6) (And.intro (s2) (s3)))))))))
  have HSd : Hid (W3.drew.cell? ⟨B, 0, none⟩ = some v0 ∧ W3.drew.cell? ⟨B, 1, none⟩ = some v1 ∧ W3.drew.cell? ⟨B, 2, none⟩ = some (.slice ga m gc) ∧ W3.drew.cell? ⟨B, 3, none⟩ = some (.slice sa ms sc) ∧ W3.drew.cell? ⟨B, 4, none⟩ = some v4 ∧ W3.drew.cell? ⟨B, 5, none⟩ = some v5 ∧ W3.drew.cell? ⟨B, 6, none⟩ = some v6 ∧ W3.drew.cell? ⟨B + 1, 2, none⟩ = some (.int .u64 sp) ∧ W3.drew.cell? ⟨B + 1, 3, none⟩ = some (.int .u64 sz)) := Lib.hid HS0.out
  clear o0 o1 o2 o3 o4 o5 o6 s2 s3
  go_region_held3 (fun W => W.cell? ⟨B, 0, none⟩ = some v0 ∧ W.cell? ⟨B, 1, none⟩ = some v1 ∧ W.cell? ⟨B, 2, none⟩ = some (.slice ga m gc) ∧ W.cell? ⟨B, 3, none⟩ = some (.slice sa ms sc) ∧ W.cell? ⟨B, 4, none⟩ = some v4 ∧ W.cell? ⟨B, 5, none⟩ = some v5 ∧ W.cell? ⟨B, 6, none⟩ = some v6 ∧ W.cell? ⟨B + 1, 2, none⟩ = some (.int .u64 sp) ∧ W.cell? ⟨B + 1, 3, none⟩ = some (.int .u64 sz))
    (first | with_reducible exact HSd.out | with_reducible exact HS4.out | with_reducible exact HS5.out | with_reducible exact HS6.out | with_reducible exact HSK.out | go_keep)
    (first
      | (go_at_call 39; refine (C1.out _ (Below.drew B3.out)).mono ?_; rintro e w4 ⟨rfl, hb⟩; have hb2 : Below W3.heap.size W3 w4 := (by first | exact hb | exact undrewT hb); have HS4 := Lib.hid (And.intro (cell_below hb2 HS0.out.1) (And.intro (cell_below hb2 HS0.out.2.1) (And.intro (cell_below hb2 HS0.out.2.2.1) (And.intro (cell_below hb2 HS0.out.2.2.2.1) (And.intro (cell_below hb2 HS0.out.2.2.2.2.1) (And.intro (cell_below hb2 HS0.out.2.2.2.2.2.1) (And.intro (cell_below hb2 HS0.out.2.2.2.2.2.2.1) (And.intro (cell_below hb2 HS0.out.2.2.2.2.2.2.2.1) (cell_below hb2 HS0.out.2.2.2.2.2.2.2.2))))))))); have X4 := Lib.hid (boxN_below X3.out hb2); have B4 := Lib.hid (B3.out.trans (hb2.mono B3.out.size)); clear hb hb2)
      | (go_at_call 38; refine (C2.out _ B4.out).mono ?_; rintro e w5 ⟨rfl, hb⟩; have HS5 := Lib.hid (And.intro (cell_below hb HS4.out.1) (And.intro (cell_below hb HS4.out.2.1) (And.intro (cell_below hb HS4.out.2.2.1) (And.intro (cell_below hb HS4.out.2.2.2.1) (And.intro (cell_below hb HS4.out.2.2.2.2.1) (And.intro (cell_below hb HS4.out.2.2.2.2.2.1) (And.intro (cell_below hb HS4.out.2.2.2.2.2.2.1) (And.intro (cell_below hb HS4.out.2.2.2.2.2.2.2.1) (cell_below hb HS4.out.2.2.2.2.2.2.2.2))))))))); have X5 := Lib.hid (boxN_below X4.out hb); have B5 := Lib.hid (B4.out.trans (hb.mono B4.out.size)); clear hb)
      | (go_at_call 22; refine (C3.out _).mono ?_; rintro e w6 ⟨rfl, hb⟩; have HS6 := Lib.hid (And.intro (cell_below hb HS5.out.1) (And.intro (cell_below hb HS5.out.2.1) (And.intro (cell_below hb HS5.out.2.2.1) (And.intro (cell_below hb HS5.out.2.2.2.1) (And.intro (cell_below hb HS5.out.2.2.2.2.1) (And.intro (cell_below hb HS5.out.2.2.2.2.2.1) (And.intro (cell_below hb HS5.out.2.2.2.2.2.2.1) (And.intro (cell_below hb HS5.out.2.2.2.2.2.2.2.1) (cell_below hb HS5.out.2.2.2.2.2.2.2.2))))))))); have X6 := Lib.hid (boxN_below X5.out hb); have B6 := Lib.hid (B5.out.trans (hb.mono B5.out.size)); have HSK := Lib.hid (And.intro ((cell_set6 (W := w6) (b := B + 1 + 1) (B := B) 0 (.int .u64 x) (.int .u64 y) (.int .u64 q) (.int .i64 pm) (.int .i64 (-1)) (.bool true) (by omega)).trans HS6.out.1) (And.intro ((cell_set6 (W := w6) (b := B + 1 + 1) (B := B) 1 (.int .u64 x) (.int .u64 y) (.int .u64 q) (.int .i64 pm) (.int .i64 (-1)) (.bool true) (by omega)).trans HS6.out.2.1) (And.intro ((cell_set6 (W := w6) (b := B + 1 + 1) (B := B) 2 (.int .u64 x) (.int .u64 y) (.int .u64 q) (.int .i64 pm) (.int .i64 (-1)) (.bool true) (by omega)).trans HS6.out.2.2.1) (And.intro ((cell_set6 (W := w6) (b := B + 1 + 1) (B := B) 3 (.int .u64 x) (.int .u64 y) (.int .u64 q) (.int .i64 pm) (.int .i64 (-1)) (.bool true) (by omega)).trans HS6.out.2.2.2.1) (And.intro ((cell_set6 (W := w6) (b := B + 1 + 1) (B := B) 4 (.int .u64 x) (.int .u64 y) (.int .u64 q) (.int .i64 pm) (.int .i64 (-1)) (.bool true) (by omega)).trans HS6.out.2.2.2.2.1) (And.intro ((cell_set6 (W := w6) (b := B + 1 + 1) (B := B) 5 (.int .u64 x) (.int .u64 y) (.int .u64 q) (.int .i64 pm) (.int .i64 (-1)) (.bool true) (by omega)).trans HS6.out.2.2.2.2.2.1) (And.intro ((cell_set6 (W := w6) (b := B + 1 + 1) (B := B) 6 (.int .u64 x) (.int .u64 y) (.int .u64 q) (.int .i64 pm) (.int .i64 (-1)) (.bool true) (by omega)).trans HS6.out.2.2.2.2.2.2.1) (And.intro ((cell_set6 (W := w6) (b := B + 1 + 1) (B := B + 1) 2 (.int .u64 x) (.int .u64 y) (.int .u64 q) (.int .i64 pm) (.int .i64 (-1)) (.bool true) (by omega)).trans HS6.out.2.2.2.2.2.2.2.1) ((cell_set6 (W := w6) (b := B + 1 + 1) (B := B + 1) 3 (.int .u64 x) (.int .u64 y) (.int .u64 q) (.int .i64 pm) (.int .i64 (-1)) (.bool true) (by omega)).trans HS6.out.2.2.2.2.2.2.2.2))))))))); obtain ⟨⟨c0, c1, c2, c3, c4, c5⟩, f0, f1, f2, f3, f4, f5⟩ := boxN6 X6.out; clear hb))
  go_wp2_with fail
  exact bodyPost_ret (v := .agg #[.int .u64 x, .int .u64 y, .int .u64 q, .int .i64 pm, .int .i64 (-1), .bool true]) (by simp [results, Try.results19, go_sem, c0, c1, c2, c3, c4, c5]) rfl ⟨rfl, below_set6 B6.out (by have := HB.out; omega)⟩
end Go.Proofs.Ytidnojjhchmmgaa
