/- A symbol's bytes: Data, the program's and the document's. -/
import Derived.Test.YtidnojjhchmmgaaTaC
namespace Go.Proofs.Ytidnojjhchmmgaa
set_option linter.unusedVariables false
set_option linter.unusedSimpArgs false
open Go.Joins Go.ChangeShapes Go.WideShapes Go.ChangeAt Go.RowKit Go.Deep

set_option maxHeartbeats 1000000 in
theorem data_any (v0 v1 v4 v5 v6 : Value) (ga sa : Option Addr) (m gc ms sc : Nat) (l : List Seg) (sl : List Sym) (base : Int) (k2 : Nat) (s : Sym) (k : Nat) (g : Seg) (w : World) (hm : l.length = m) (hg : RdG w ga l) (hm8 : m < 9223372036854775808) (hok : SegsOk l) (hb0 : 0 ≤ base) (hb1 : base < 4294967296) (hsm : sl.length = ms) (hsr : RdS w sa sl) (hsl : sl[k2]? = some s) (hi : SymIn l s.place s.size k g) (x y pm q z : Int) (hx : base + g.place = x) (hy : x + g.size = y) (hpm : permF g.flags = pm) (hq : base + s.place = q) (hz : q + s.size = z) :
    Calls Try.prog 7 #[.agg #[v0, v1, .slice ga m gc, .slice sa ms sc, v4, v5, v6], .int .u64 base, .int .i64 (k2 : Int)] w fun e w' => e = .returned (.agg #[.int .u64 q, .int .u64 z, .int .u64 q, .int .i64 pm, .int .i64 (-1), .bool true]) ∧ Below w.heap.size w w' := by
  have hkl : k2 < sl.length := (get_mem hsl).2
  have hsk : sl[k2] = s := by rw [List.getElem?_eq_getElem hkl] at hsl; exact Option.some.inj hsl
  obtain ⟨nm, vr, sp, sz, kd, bd, sn, df⟩ := s
  simp only at hi hq hz
  have hgm := get_mem hi.get
  have hgz := hok.pz _ hgm.1
  have hfl := hok.fl _ hgm.1
  have hpi := permF_in g.flags
  have hlo := hi.lo
  have hhi := hi.hi
  have hsp := hi.sp
  have hsz := hi.sz
  have kk0 : (0 : Int) ≤ (k2 : Int) := by omega
  have kk1 : (k2 : Int) < (ms : Int) := by omega
  have w1 : IntKind.u64.wrap (base + sp) = q := by unfold u64B at hsp hsz; rw [IntKind.wrap_u64]; omega
  have w2 : IntKind.u64.wrap (q + sz) = z := by unfold u64B at hsp hsz; rw [IntKind.wrap_u64]; omega
  have C0 := Lib.hid (fun w2 => has7_any v0 v1 (.slice ga m gc) v4 v5 v6 sa ms sc (k2 : Int) w2)
  rw [decide_eq_true kk0, decide_eq_true kk1, Bool.true_and] at C0
  have C1 := Lib.hid (fun w2 (h : Below w.heap.size w w2) => standing_any v0 v1 v4 v5 v6 ga sa m gc ms sc l base nm vr sp sz kd bd sn df k g w2 hm (hg.below h) hm8 hok hb0 hb1 hi x y pm q hx hy hpm hq)
  have C2 := Lib.hid (fun w2 => bound_x x y q pm sz z w2 (by unfold u64B at hsp; omega) (by unfold u64B at hsp hsz; omega) (by unfold u64B at hsz; omega) (by omega) (by omega) hz (by omega))
  have HSR := Lib.hid hsr
  clear hsr hsl hgm hgz hfl hpi hlo hhi hsp hsz hm hg hm8 hok hb0 hb1 hi hx hy hpm hq hz
  go_enter Try.func7, Try.ntmps7
  go_wp2_with fail
  refine (C0.out _).mono ?_; rintro e w2 ⟨rfl, hb⟩
  have O2 : Hid (BoxN w2 w.heap.size #[v0, v1, .slice ga m gc, .slice sa ms sc, v4, v5, v6]) := Lib.hid (boxN_below (boxN_below (BoxN.new w #[v0, v1, .slice ga m gc, .slice sa ms sc, v4, v5, v6] 28) (bAlloc (Below.refl _ _) _)) hb)
  have X2 : Hid (BoxN w2 (w.heap.size + 1) #[.int .u64 0, .int .u64 0, .int .u64 0, .int .i64 0, .int .i64 0, .bool false]) := Lib.hid (by
    have h := BoxN.new (w.alloc (.cells #[v0, v1, .slice ga m gc, .slice sa ms sc, v4, v5, v6] 28)) #[.int .u64 0, .int .u64 0, .int .u64 0, .int .i64 0, .int .i64 0, .bool false] 37
    rw [size_alloc] at h
    exact boxN_below h hb)
  have B2 := Lib.hid ((bAlloc (bAlloc (Below.refl w.heap.size w) (.cells #[v0, v1, .slice ga m gc, .slice sa ms sc, v4, v5, v6] 28)) (.cells #[.int .u64 0, .int .u64 0, .int .u64 0, .int .i64 0, .int .i64 0, .bool false] 37)).trans (hb.mono (by rw [size_alloc, size_alloc]; omega)))
  clear hb
  obtain ⟨gs, os, hge, hgl, s0, s1, s2, s3, s4, s5, s6, s7⟩ := (HSR.out.below B2.out).at_ hkl
  subst hge
  rw [hsk] at s0 s1 s2 s3 s4 s5 s6 s7
  simp only at s0 s1 s2 s3 s4 s5 s6 s7
  clear hkl hsk hgl
  have o0 : w2.cell? ⟨w.heap.size, 0, none⟩ = some (v0) := O2.out.cell 0
  have o1 : w2.cell? ⟨w.heap.size, 1, none⟩ = some (v1) := O2.out.cell 1
  have o2 : w2.cell? ⟨w.heap.size, 2, none⟩ = some (.slice ga m gc) := O2.out.cell 2
  have o3 : w2.cell? ⟨w.heap.size, 3, none⟩ = some (.slice (some ⟨gs, os, none⟩) ms sc) := O2.out.cell 3
  have o4 : w2.cell? ⟨w.heap.size, 4, none⟩ = some (v4) := O2.out.cell 4
  have o5 : w2.cell? ⟨w.heap.size, 5, none⟩ = some (v5) := O2.out.cell 5
  have o6 : w2.cell? ⟨w.heap.size, 6, none⟩ = some (v6) := O2.out.cell 6
  go_upto_region 4 with fail
  obtain ⟨W3, hW3⟩ : ∃ W, w2.alloc (.cells #[.string ⟨nm.toArray⟩, .string ⟨vr.toArray⟩, .int .u64 sp, .int .u64 sz, .int .i64 kd, .int .i64 bd, .int .i64 sn, .bool df] 35) = W := ⟨_, rfl⟩
  rw [hW3]
  have B3 : Hid (Below w.heap.size w W3) := Lib.hid (by rw [← hW3]; exact bAlloc B2.out _)
  have O3 : Hid (BoxN W3 w.heap.size #[v0, v1, .slice ga m gc, .slice (some ⟨gs, os, none⟩) ms sc, v4, v5, v6]) := Lib.hid (by rw [← hW3]; exact boxN_below O2.out (bAlloc (Below.refl _ _) _))
  have X3 : Hid (BoxN W3 (w.heap.size + 1) #[.int .u64 0, .int .u64 0, .int .u64 0, .int .i64 0, .int .i64 0, .bool false]) := Lib.hid (by rw [← hW3]; exact boxN_below X2.out (bAlloc (Below.refl _ _) _))
  have S3 : Hid (BoxN W3 w2.heap.size #[.string ⟨nm.toArray⟩, .string ⟨vr.toArray⟩, .int .u64 sp, .int .u64 sz, .int .i64 kd, .int .i64 bd, .int .i64 sn, .bool df]) := Lib.hid (by rw [← hW3]; exact BoxN.new w2 _ _)
  have hlt := X2.out.lt
  clear hW3 s0 s1 s2 s3 s4 s5 s6 s7 o0 o1 o2 o3 o4 o5 o6 X2 O2 B2
  obtain ⟨B, hB⟩ : ∃ B, w.heap.size = B := ⟨_, rfl⟩
  have HB := Lib.hid hB
  obtain ⟨Q, hQ⟩ : ∃ Q, w2.heap.size = Q := ⟨_, rfl⟩
  rw [hQ] at S3 hlt ⊢
  rw [hB] at O3 X3 hlt ⊢
  clear hB hQ
  have o0 : W3.cell? ⟨B, 0, none⟩ = some (v0) := O3.out.cell 0
  have o1 : W3.cell? ⟨B, 1, none⟩ = some (v1) := O3.out.cell 1
  have o2 : W3.cell? ⟨B, 2, none⟩ = some (.slice ga m gc) := O3.out.cell 2
  have o3 : W3.cell? ⟨B, 3, none⟩ = some (.slice (some ⟨gs, os, none⟩) ms sc) := O3.out.cell 3
  have o4 : W3.cell? ⟨B, 4, none⟩ = some (v4) := O3.out.cell 4
  have o5 : W3.cell? ⟨B, 5, none⟩ = some (v5) := O3.out.cell 5
  have o6 : W3.cell? ⟨B, 6, none⟩ = some (v6) := O3.out.cell 6
  have s0 : W3.cell? ⟨Q, 0, none⟩ = some (.string ⟨nm.toArray⟩) := S3.out.cell 0
  have s1 : W3.cell? ⟨Q, 1, none⟩ = some (.string ⟨vr.toArray⟩) := S3.out.cell 1
  have s2 : W3.cell? ⟨Q, 2, none⟩ = some (.int .u64 sp) := S3.out.cell 2
  have s3 : W3.cell? ⟨Q, 3, none⟩ = some (.int .u64 sz) := S3.out.cell 3
  have s4 : W3.cell? ⟨Q, 4, none⟩ = some (.int .i64 kd) := S3.out.cell 4
  have s5 : W3.cell? ⟨Q, 5, none⟩ = some (.int .i64 bd) := S3.out.cell 5
  have s6 : W3.cell? ⟨Q, 6, none⟩ = some (.int .i64 sn) := S3.out.cell 6
  have s7 : W3.cell? ⟨Q, 7, none⟩ = some (.bool df) := S3.out.cell 7
  have HS0 := Lib.hid (And.intro (o0) (And.intro (o1) (And.intro (o2) (And.intro (o3) (And.intro (o4) (And.intro (o5) (And.intro (o6) (And.intro (s0) (And.intro (s1) (And.intro (s2) (And.intro (s3) (And.intro (s4) (And.intro (s5) (And.intro (s6) (s7)))))))))))))))
  have HSd : Hid (W3.drew.cell? ⟨B, 0, none⟩ = some v0 ∧ W3.drew.cell? ⟨B, 1, none⟩ = some v1 ∧ W3.drew.cell? ⟨B, 2, none⟩ = some (.slice ga m gc) ∧ W3.drew.cell? ⟨B, 3, none⟩ = some (.slice (some ⟨gs, os, none⟩) ms sc) ∧ W3.drew.cell? ⟨B, 4, none⟩ = some v4 ∧ W3.drew.cell? ⟨B, 5, none⟩ = some v5 ∧ W3.drew.cell? ⟨B, 6, none⟩ = some v6 ∧ W3.drew.cell? ⟨Q, 0, none⟩ = some (.string ⟨nm.toArray⟩) ∧ W3.drew.cell? ⟨Q, 1, none⟩ = some (.string ⟨vr.toArray⟩) ∧ W3.drew.cell? ⟨Q, 2, none⟩ = some (.int .u64 sp) ∧ W3.drew.cell? ⟨Q, 3, none⟩ = some (.int .u64 sz) ∧ W3.drew.cell? ⟨Q, 4, none⟩ = some (.int .i64 kd) ∧ W3.drew.cell? ⟨Q, 5, none⟩ = some (.int .i64 bd) ∧ W3.drew.cell? ⟨Q, 6, none⟩ = some (.int .i64 sn) ∧ W3.drew.cell? ⟨Q, 7, none⟩ = some (.bool df)) := Lib.hid HS0.out
  clear o0 o1 o2 o3 o4 o5 o6 s0 s1 s2 s3 s4 s5 s6 s7
  go_region_held3 (fun W => W.cell? ⟨B, 0, none⟩ = some v0 ∧ W.cell? ⟨B, 1, none⟩ = some v1 ∧ W.cell? ⟨B, 2, none⟩ = some (.slice ga m gc) ∧ W.cell? ⟨B, 3, none⟩ = some (.slice (some ⟨gs, os, none⟩) ms sc) ∧ W.cell? ⟨B, 4, none⟩ = some v4 ∧ W.cell? ⟨B, 5, none⟩ = some v5 ∧ W.cell? ⟨B, 6, none⟩ = some v6 ∧ W.cell? ⟨Q, 0, none⟩ = some (.string ⟨nm.toArray⟩) ∧ W.cell? ⟨Q, 1, none⟩ = some (.string ⟨vr.toArray⟩) ∧ W.cell? ⟨Q, 2, none⟩ = some (.int .u64 sp) ∧ W.cell? ⟨Q, 3, none⟩ = some (.int .u64 sz) ∧ W.cell? ⟨Q, 4, none⟩ = some (.int .i64 kd) ∧ W.cell? ⟨Q, 5, none⟩ = some (.int .i64 bd) ∧ W.cell? ⟨Q, 6, none⟩ = some (.int .i64 sn) ∧ W.cell? ⟨Q, 7, none⟩ = some (.bool df))
    (first | with_reducible exact HSd.out | with_reducible exact HS5.out | with_reducible exact HS6.out | with_reducible exact HSK.out | go_keep)
    (first
      | (go_at_call 19; refine (C1.out _ (Below.drew B3.out)).mono ?_; rintro e w5 ⟨rfl, hb⟩; have hb2 : Below W3.heap.size W3 w5 := (by first | exact hb | exact undrewT hb); have HS5 := Lib.hid (And.intro (cell_below hb2 HS0.out.1) (And.intro (cell_below hb2 HS0.out.2.1) (And.intro (cell_below hb2 HS0.out.2.2.1) (And.intro (cell_below hb2 HS0.out.2.2.2.1) (And.intro (cell_below hb2 HS0.out.2.2.2.2.1) (And.intro (cell_below hb2 HS0.out.2.2.2.2.2.1) (And.intro (cell_below hb2 HS0.out.2.2.2.2.2.2.1) (And.intro (cell_below hb2 HS0.out.2.2.2.2.2.2.2.1) (And.intro (cell_below hb2 HS0.out.2.2.2.2.2.2.2.2.1) (And.intro (cell_below hb2 HS0.out.2.2.2.2.2.2.2.2.2.1) (And.intro (cell_below hb2 HS0.out.2.2.2.2.2.2.2.2.2.2.1) (And.intro (cell_below hb2 HS0.out.2.2.2.2.2.2.2.2.2.2.2.1) (And.intro (cell_below hb2 HS0.out.2.2.2.2.2.2.2.2.2.2.2.2.1) (And.intro (cell_below hb2 HS0.out.2.2.2.2.2.2.2.2.2.2.2.2.2.1) (cell_below hb2 HS0.out.2.2.2.2.2.2.2.2.2.2.2.2.2.2))))))))))))))); have X5 := Lib.hid (boxN_below X3.out hb2); have B5 := Lib.hid (B3.out.trans (hb2.mono B3.out.size)); clear hb hb2)
      | (go_at_call 18; refine (C2.out _).mono ?_; rintro e w6 ⟨rfl, hb⟩; have HS6 := Lib.hid (And.intro (cell_below hb HS5.out.1) (And.intro (cell_below hb HS5.out.2.1) (And.intro (cell_below hb HS5.out.2.2.1) (And.intro (cell_below hb HS5.out.2.2.2.1) (And.intro (cell_below hb HS5.out.2.2.2.2.1) (And.intro (cell_below hb HS5.out.2.2.2.2.2.1) (And.intro (cell_below hb HS5.out.2.2.2.2.2.2.1) (And.intro (cell_below hb HS5.out.2.2.2.2.2.2.2.1) (And.intro (cell_below hb HS5.out.2.2.2.2.2.2.2.2.1) (And.intro (cell_below hb HS5.out.2.2.2.2.2.2.2.2.2.1) (And.intro (cell_below hb HS5.out.2.2.2.2.2.2.2.2.2.2.1) (And.intro (cell_below hb HS5.out.2.2.2.2.2.2.2.2.2.2.2.1) (And.intro (cell_below hb HS5.out.2.2.2.2.2.2.2.2.2.2.2.2.1) (And.intro (cell_below hb HS5.out.2.2.2.2.2.2.2.2.2.2.2.2.2.1) (cell_below hb HS5.out.2.2.2.2.2.2.2.2.2.2.2.2.2.2))))))))))))))); have X6 := Lib.hid (boxN_below X5.out hb); have B6 := Lib.hid (B5.out.trans (hb.mono B5.out.size)); have HSK := Lib.hid (And.intro ((cell_set6 (W := w6) (b := B + 1) (B := B) 0 (.int .u64 q) (.int .u64 z) (.int .u64 q) (.int .i64 pm) (.int .i64 (-1)) (.bool true) (by omega)).trans HS6.out.1) (And.intro ((cell_set6 (W := w6) (b := B + 1) (B := B) 1 (.int .u64 q) (.int .u64 z) (.int .u64 q) (.int .i64 pm) (.int .i64 (-1)) (.bool true) (by omega)).trans HS6.out.2.1) (And.intro ((cell_set6 (W := w6) (b := B + 1) (B := B) 2 (.int .u64 q) (.int .u64 z) (.int .u64 q) (.int .i64 pm) (.int .i64 (-1)) (.bool true) (by omega)).trans HS6.out.2.2.1) (And.intro ((cell_set6 (W := w6) (b := B + 1) (B := B) 3 (.int .u64 q) (.int .u64 z) (.int .u64 q) (.int .i64 pm) (.int .i64 (-1)) (.bool true) (by omega)).trans HS6.out.2.2.2.1) (And.intro ((cell_set6 (W := w6) (b := B + 1) (B := B) 4 (.int .u64 q) (.int .u64 z) (.int .u64 q) (.int .i64 pm) (.int .i64 (-1)) (.bool true) (by omega)).trans HS6.out.2.2.2.2.1) (And.intro ((cell_set6 (W := w6) (b := B + 1) (B := B) 5 (.int .u64 q) (.int .u64 z) (.int .u64 q) (.int .i64 pm) (.int .i64 (-1)) (.bool true) (by omega)).trans HS6.out.2.2.2.2.2.1) (And.intro ((cell_set6 (W := w6) (b := B + 1) (B := B) 6 (.int .u64 q) (.int .u64 z) (.int .u64 q) (.int .i64 pm) (.int .i64 (-1)) (.bool true) (by omega)).trans HS6.out.2.2.2.2.2.2.1) (And.intro ((cell_set6 (W := w6) (b := B + 1) (B := Q) 0 (.int .u64 q) (.int .u64 z) (.int .u64 q) (.int .i64 pm) (.int .i64 (-1)) (.bool true) (by omega)).trans HS6.out.2.2.2.2.2.2.2.1) (And.intro ((cell_set6 (W := w6) (b := B + 1) (B := Q) 1 (.int .u64 q) (.int .u64 z) (.int .u64 q) (.int .i64 pm) (.int .i64 (-1)) (.bool true) (by omega)).trans HS6.out.2.2.2.2.2.2.2.2.1) (And.intro ((cell_set6 (W := w6) (b := B + 1) (B := Q) 2 (.int .u64 q) (.int .u64 z) (.int .u64 q) (.int .i64 pm) (.int .i64 (-1)) (.bool true) (by omega)).trans HS6.out.2.2.2.2.2.2.2.2.2.1) (And.intro ((cell_set6 (W := w6) (b := B + 1) (B := Q) 3 (.int .u64 q) (.int .u64 z) (.int .u64 q) (.int .i64 pm) (.int .i64 (-1)) (.bool true) (by omega)).trans HS6.out.2.2.2.2.2.2.2.2.2.2.1) (And.intro ((cell_set6 (W := w6) (b := B + 1) (B := Q) 4 (.int .u64 q) (.int .u64 z) (.int .u64 q) (.int .i64 pm) (.int .i64 (-1)) (.bool true) (by omega)).trans HS6.out.2.2.2.2.2.2.2.2.2.2.2.1) (And.intro ((cell_set6 (W := w6) (b := B + 1) (B := Q) 5 (.int .u64 q) (.int .u64 z) (.int .u64 q) (.int .i64 pm) (.int .i64 (-1)) (.bool true) (by omega)).trans HS6.out.2.2.2.2.2.2.2.2.2.2.2.2.1) (And.intro ((cell_set6 (W := w6) (b := B + 1) (B := Q) 6 (.int .u64 q) (.int .u64 z) (.int .u64 q) (.int .i64 pm) (.int .i64 (-1)) (.bool true) (by omega)).trans HS6.out.2.2.2.2.2.2.2.2.2.2.2.2.2.1) ((cell_set6 (W := w6) (b := B + 1) (B := Q) 7 (.int .u64 q) (.int .u64 z) (.int .u64 q) (.int .i64 pm) (.int .i64 (-1)) (.bool true) (by omega)).trans HS6.out.2.2.2.2.2.2.2.2.2.2.2.2.2.2))))))))))))))); obtain ⟨⟨c0, c1, c2, c3, c4, c5⟩, f0, f1, f2, f3, f4, f5⟩ := boxN6 X6.out; clear hb))
  go_wp2_with fail
  exact bodyPost_ret (v := .agg #[.int .u64 q, .int .u64 z, .int .u64 q, .int .i64 pm, .int .i64 (-1), .bool true]) (by simp [results, Try.results7, go_sem, c0, c1, c2, c3, c4, c5]) rfl ⟨rfl, below_set6 B6.out (by have := HB.out; omega)⟩
set_option maxHeartbeats 1000000 in
theorem rdata_any (v0 v1 v4 v5 v6 : Value) (ga sa : Option Addr) (m gc ms sc : Nat) (l : List Seg) (sl : List Sym) (base : Int) (k2 : Nat) (s : Sym) (k : Nat) (g : Seg) (w : World) (hm : l.length = m) (hg : RdG w ga l) (hm8 : m < 9223372036854775808) (hok : SegsOk l) (hb0 : 0 ≤ base) (hb1 : base < 4294967296) (hsm : sl.length = ms) (hsr : RdS w sa sl) (hsl : sl[k2]? = some s) (hi : SymIn l s.place s.size k g) (x y pm q z : Int) (hx : base + g.place = x) (hy : x + g.size = y) (hpm : permF g.flags = pm) (hq : base + s.place = q) (hz : q + s.size = z) :
    Calls Try.prog 8 #[.agg #[v0, v1, .slice ga m gc, .slice sa ms sc, v4, v5, v6], .int .u64 base, .int .i64 (k2 : Int)] w fun e w' => e = .returned (.agg #[.int .u64 q, .int .u64 z, .int .u64 q, .int .i64 pm, .int .i64 (-1), .bool true]) ∧ Below w.heap.size w w' := by
  have hkl : k2 < sl.length := (get_mem hsl).2
  have hsk : sl[k2] = s := by rw [List.getElem?_eq_getElem hkl] at hsl; exact Option.some.inj hsl
  obtain ⟨nm, vr, sp, sz, kd, bd, sn, df⟩ := s
  simp only at hi hq hz
  have hgm := get_mem hi.get
  have hgz := hok.pz _ hgm.1
  have hfl := hok.fl _ hgm.1
  have hpi := permF_in g.flags
  have hlo := hi.lo
  have hhi := hi.hi
  have hsp := hi.sp
  have hsz := hi.sz
  have kk0 : (0 : Int) ≤ (k2 : Int) := by omega
  have kk1 : (k2 : Int) < (ms : Int) := by omega
  have w1 : IntKind.u64.wrap (base + sp) = q := by unfold u64B at hsp hsz; rw [IntKind.wrap_u64]; omega
  have w2 : IntKind.u64.wrap (q + sz) = z := by unfold u64B at hsp hsz; rw [IntKind.wrap_u64]; omega
  have hgk : l[k]'(hgm.2) = g := by have h := hi.get; rw [List.getElem?_eq_getElem hgm.2] at h; exact Option.some.inj h
  have kg0 : (0 : Int) ≤ (k : Int) := by omega
  have kg1 : (k : Int) < (m : Int) := by have := hgm.2; omega
  have C1 := Lib.hid (fun w2 (h : Below w.heap.size w w2) => rat_any v0 v1 (.slice sa ms sc) v4 v5 v6 ga m gc l sp sz w2 hm (hg.below h) hm8 hok.u64 hi.sp hi.sz)
  rw [hi.at_] at C1
  have C2 := Lib.hid (fun w2 => rperms_any g.flags (by omega) (by omega) w2)
  rw [hpm] at C2
  obtain ⟨gs, os, hge, hgl, s0, s1, s2, s3, s4, s5, s6, s7⟩ := (hsr.below (bAlloc (bAlloc (Below.refl _ _) (.cells #[v0, v1, .slice ga m gc, .slice sa ms sc, v4, v5, v6] 28)) (.cells #[.int .u64 0, .int .u64 0, .int .u64 0, .int .i64 0, .int .i64 0, .bool false] 37))).at_ hkl
  obtain ⟨gg, og, hge2, hgl2, -, -, d2, -⟩ := (hg.below (bAlloc (bAlloc (bAlloc (Below.refl _ _) (.cells #[v0, v1, .slice ga m gc, .slice sa ms sc, v4, v5, v6] 28)) (.cells #[.int .u64 0, .int .u64 0, .int .u64 0, .int .i64 0, .int .i64 0, .bool false] 37)) (.cells #[.string ⟨nm.toArray⟩, .string ⟨vr.toArray⟩, .int .u64 sp, .int .u64 sz, .int .i64 kd, .int .i64 bd, .int .i64 sn, .bool df] 35))).at_ hgm.2
  subst hge
  subst hge2
  rw [hsk] at s0 s1 s2 s3 s4 s5 s6 s7
  rw [hgk] at d2
  simp only at s0 s1 s2 s3 s4 s5 s6 s7
  obtain ⟨fl, hfl2⟩ : ∃ f, g.flags = f := ⟨_, rfl⟩
  rw [hfl2] at d2 C2
  clear hsr hsl hkl hsk hgl hgl2 hgk hgm hgz hfl hpi hlo hhi hsp hsz hm hg hm8 hok hb0 hb1 hi hx hy hpm hq hz hfl2
  go_enter Try.func8, Try.ntmps8
  go_upto_region 3 with fail
  obtain ⟨W3, hW3⟩ : ∃ W, ((w.alloc (.cells #[v0, v1, .slice (some ⟨gg, og, none⟩) m gc, .slice (some ⟨gs, os, none⟩) ms sc, v4, v5, v6] 28)).alloc (.cells #[.int .u64 0, .int .u64 0, .int .u64 0, .int .i64 0, .int .i64 0, .bool false] 37)).alloc (.cells #[.string ⟨nm.toArray⟩, .string ⟨vr.toArray⟩, .int .u64 sp, .int .u64 sz, .int .i64 kd, .int .i64 bd, .int .i64 sn, .bool df] 35) = W := ⟨_, rfl⟩
  rw [hW3] at d2 ⊢
  have B3 : Hid (Below w.heap.size w W3) := Lib.hid (by rw [← hW3]; exact bAlloc (bAlloc (bAlloc (Below.refl _ _) _) _) _)
  have O3 : Hid (BoxN W3 w.heap.size #[v0, v1, .slice (some ⟨gg, og, none⟩) m gc, .slice (some ⟨gs, os, none⟩) ms sc, v4, v5, v6]) := Lib.hid (by rw [← hW3]; exact boxN_below (BoxN.new w #[v0, v1, .slice (some ⟨gg, og, none⟩) m gc, .slice (some ⟨gs, os, none⟩) ms sc, v4, v5, v6] 28) (bAlloc (bAlloc (Below.refl _ _) _) _))
  have X3 : Hid (BoxN W3 (w.heap.size + 1) #[.int .u64 0, .int .u64 0, .int .u64 0, .int .i64 0, .int .i64 0, .bool false]) := Lib.hid (by
    rw [← hW3]
    have h := BoxN.new (w.alloc (.cells #[v0, v1, .slice (some ⟨gg, og, none⟩) m gc, .slice (some ⟨gs, os, none⟩) ms sc, v4, v5, v6] 28)) #[.int .u64 0, .int .u64 0, .int .u64 0, .int .i64 0, .int .i64 0, .bool false] 37
    rw [size_alloc] at h
    exact boxN_below h (bAlloc (Below.refl _ _) _))
  have S3 : Hid (BoxN W3 (w.heap.size + 1 + 1) #[.string ⟨nm.toArray⟩, .string ⟨vr.toArray⟩, .int .u64 sp, .int .u64 sz, .int .i64 kd, .int .i64 bd, .int .i64 sn, .bool df]) := Lib.hid (by
    rw [← hW3]
    have h := BoxN.new ((w.alloc (.cells #[v0, v1, .slice (some ⟨gg, og, none⟩) m gc, .slice (some ⟨gs, os, none⟩) ms sc, v4, v5, v6] 28)).alloc (.cells #[.int .u64 0, .int .u64 0, .int .u64 0, .int .i64 0, .int .i64 0, .bool false] 37)) #[.string ⟨nm.toArray⟩, .string ⟨vr.toArray⟩, .int .u64 sp, .int .u64 sz, .int .i64 kd, .int .i64 bd, .int .i64 sn, .bool df] 35
    rw [size_alloc, size_alloc] at h
    exact h)
  clear hW3 s0 s1 s2 s3 s4 s5 s6 s7
  obtain ⟨B, hB⟩ : ∃ B, w.heap.size = B := ⟨_, rfl⟩
  have HB := Lib.hid hB
  rw [hB] at O3 S3 X3 ⊢
  clear hB
  have o0 : W3.cell? ⟨B, 0, none⟩ = some (v0) := O3.out.cell 0
  have o1 : W3.cell? ⟨B, 1, none⟩ = some (v1) := O3.out.cell 1
  have o2 : W3.cell? ⟨B, 2, none⟩ = some (.slice (some ⟨gg, og, none⟩) m gc) := O3.out.cell 2
  have o3 : W3.cell? ⟨B, 3, none⟩ = some (.slice (some ⟨gs, os, none⟩) ms sc) := O3.out.cell 3
  have o4 : W3.cell? ⟨B, 4, none⟩ = some (v4) := O3.out.cell 4
  have o5 : W3.cell? ⟨B, 5, none⟩ = some (v5) := O3.out.cell 5
  have o6 : W3.cell? ⟨B, 6, none⟩ = some (v6) := O3.out.cell 6
  have s2 : W3.cell? ⟨B + 1 + 1, 2, none⟩ = some (.int .u64 sp) := S3.out.cell 2
  have s3 : W3.cell? ⟨B + 1 + 1, 3, none⟩ = some (.int .u64 sz) := S3.out.cell 3
  have HS0 := Lib.hid (And.intro (o0) (And.intro (o1) (And.intro (o2) (And.intro (o3) (And.intro (o4) (And.intro (o5) (And.intro (o6) (And.intro (s2) (And.intro (s3) (d2))))))))))
  have HSd : Hid (W3.drew.cell? ⟨B, 0, none⟩ = some v0 ∧ W3.drew.cell? ⟨B, 1, none⟩ = some v1 ∧ W3.drew.cell? ⟨B, 2, none⟩ = some (.slice (some ⟨gg, og, none⟩) m gc) ∧ W3.drew.cell? ⟨B, 3, none⟩ = some (.slice (some ⟨gs, os, none⟩) ms sc) ∧ W3.drew.cell? ⟨B, 4, none⟩ = some v4 ∧ W3.drew.cell? ⟨B, 5, none⟩ = some v5 ∧ W3.drew.cell? ⟨B, 6, none⟩ = some v6 ∧ W3.drew.cell? ⟨B + 1 + 1, 2, none⟩ = some (.int .u64 sp) ∧ W3.drew.cell? ⟨B + 1 + 1, 3, none⟩ = some (.int .u64 sz) ∧ W3.drew.cell? ⟨gg, og + k * 4 + 2, none⟩ = some (.int .i64 fl)) := Lib.hid HS0.out
  clear o0 o1 o2 o3 o4 o5 o6 s2 s3 d2
  go_region_held3 (fun W => W.cell? ⟨B, 0, none⟩ = some v0 ∧ W.cell? ⟨B, 1, none⟩ = some v1 ∧ W.cell? ⟨B, 2, none⟩ = some (.slice (some ⟨gg, og, none⟩) m gc) ∧ W.cell? ⟨B, 3, none⟩ = some (.slice (some ⟨gs, os, none⟩) ms sc) ∧ W.cell? ⟨B, 4, none⟩ = some v4 ∧ W.cell? ⟨B, 5, none⟩ = some v5 ∧ W.cell? ⟨B, 6, none⟩ = some v6 ∧ W.cell? ⟨B + 1 + 1, 2, none⟩ = some (.int .u64 sp) ∧ W.cell? ⟨B + 1 + 1, 3, none⟩ = some (.int .u64 sz) ∧ W.cell? ⟨gg, og + k * 4 + 2, none⟩ = some (.int .i64 fl))
    (first | with_reducible exact HSd.out | with_reducible exact HS5.out | go_keep)
    (first
      | (go_at_call 21; refine (C1.out _ (Below.drew B3.out)).mono ?_; rintro e w5 ⟨rfl, hb⟩; have hb2 : Below W3.heap.size W3 w5 := (by first | exact hb | exact undrewT hb); have HS5 := Lib.hid (And.intro (cell_below hb2 HS0.out.1) (And.intro (cell_below hb2 HS0.out.2.1) (And.intro (cell_below hb2 HS0.out.2.2.1) (And.intro (cell_below hb2 HS0.out.2.2.2.1) (And.intro (cell_below hb2 HS0.out.2.2.2.2.1) (And.intro (cell_below hb2 HS0.out.2.2.2.2.2.1) (And.intro (cell_below hb2 HS0.out.2.2.2.2.2.2.1) (And.intro (cell_below hb2 HS0.out.2.2.2.2.2.2.2.1) (And.intro (cell_below hb2 HS0.out.2.2.2.2.2.2.2.2.1) (cell_below hb2 HS0.out.2.2.2.2.2.2.2.2.2)))))))))); have X5 := Lib.hid (boxN_below X3.out hb2); have S5 := Lib.hid (boxN_below S3.out hb2); have B5 := Lib.hid (B3.out.trans (hb2.mono B3.out.size)); clear hb hb2)
      | (go_at_call 20; refine (C2.out _).mono ?_; rintro e w6 ⟨rfl, rfl⟩))
  obtain ⟨⟨c0, c1, c2, c3, c4, c5⟩, f0, f1, f2, f3, f4, f5⟩ := boxN6 X5.out
  have s3 : w5.cell? ⟨B + 1 + 1, 3, none⟩ = some (.int .u64 sz) := S5.out.cell 3
  go_wp2_with fail
  exact bodyPost_ret (v := .agg #[.int .u64 q, .int .u64 z, .int .u64 q, .int .i64 pm, .int .i64 (-1), .bool true]) (by simp [results, Try.results8, go_sem, c0, c1, c2, c3, c4, c5]) rfl ⟨rfl, below_set6 B5.out (by have := HB.out; omega)⟩
end Go.Proofs.Ytidnojjhchmmgaa
