/- A function's pair: Entry, the program's. -/
import Derived.Test.YtidnojjhchmmgaaTaS
namespace Go.Proofs.Ytidnojjhchmmgaa
set_option linter.unusedVariables false
set_option linter.unusedSimpArgs false
open Go.Joins Go.ChangeShapes Go.WideShapes Go.ChangeAt Go.RowKit Go.Deep

set_option maxHeartbeats 4000000 in
theorem entry_any (v0 v1 v4 v5 v6 : Value) (ga sa : Option Addr) (m gc ms sc : Nat) (l : List Seg) (sl : List Sym) (base : Int) (k2 : Nat) (s : Sym) (k : Nat) (g : Seg) (w : World) (hm : l.length = m) (hg : RdG w ga l) (hm8 : m < 9223372036854775808) (hok : SegsOk l) (hb0 : 0 ≤ base) (hb1 : base < 4294967296) (hsm : sl.length = ms) (hsr : RdS w sa sl) (hsl : sl[k2]? = some s) (hi : SymIn l s.place s.size k g) (x y pm q pc typ ox oy op : Int) (hx : base + g.place = x) (hy : x + g.size = y) (hpm : permF g.flags = pm) (hq : base + s.place = q) (hpc : pm + 128 = pc) (ht0 : 0 ≤ typ) (ht1 : typ < 64) (hown : ownF l base = (ox, oy, op)) :
    Calls Try.prog 9 #[.agg #[v0, v1, .slice ga m gc, .slice sa ms sc, v4, v5, v6], .int .u64 base, .int .i64 (k2 : Int), .int .i64 typ] w fun e w' => e = .returned (.tuple #[.agg #[.int .u64 x, .int .u64 y, .int .u64 q, .int .i64 pc, .int .i64 typ, .bool true], .agg #[.int .u64 ox, .int .u64 oy, .int .u64 ox, .int .i64 op, .int .i64 typ, .bool true]]) ∧ Below w.heap.size w w' := by
  have hkl : k2 < sl.length := (get_mem hsl).2
  have hsk : sl[k2] = s := by rw [List.getElem?_eq_getElem hkl] at hsl; exact Option.some.inj hsl
  obtain ⟨nm, vr, sp, sz, kd, bd, sn, df⟩ := s
  simp only at hi hq
  have hgm := get_mem hi.get
  have hgz := hok.pz _ hgm.1
  have hfl := hok.fl _ hgm.1
  have hpi := permF_in g.flags
  have hlo := hi.lo
  have hhi := hi.hi
  have hsp := hi.sp
  have hsz := hi.sz
  have kk0 : (0 : Int) ≤ (k2 : Int) := by omega
  have kk1 : (k2 : Int) < (ms : Int) := by omega
  have w1 : IntKind.u64.wrap (base + sp) = q := by unfold u64B at hsp hsz; rw [IntKind.wrap_u64]; omega
  have C0 := Lib.hid (fun w2 => has7_any v0 v1 (.slice ga m gc) v4 v5 v6 sa ms sc (k2 : Int) w2)
  rw [decide_eq_true kk0, decide_eq_true kk1, Bool.true_and] at C0
  have C1 := Lib.hid (fun w2 (h : Below w.heap.size w w2) => standing_any v0 v1 v4 v5 v6 ga sa m gc ms sc l base nm vr sp sz kd bd sn df k g w2 hm (hg.below h) hm8 hok hb0 hb1 hi x y pm q hx hy hpm hq)
  have C4 := Lib.hid (fun w2 => seal_x x y q pc typ w2 ht0 ht1)
  have C5 := Lib.hid (fun w2 (h : Below w.heap.size w w2) => own_any v0 v1 (.slice sa ms sc) v4 v5 v6 ga m gc l base ox oy op w2 hm (hg.below h) hm8 hok hb0 hb1 hown)
  have C6 := Lib.hid (fun w2 => seal_x ox oy ox op typ w2 ht0 ht1)
  have hor : bits .or .i64 pm 128 = pc := by rw [← hpm, ← hpc, ← hpm]; exact (perm_or g.flags hfl.1 hfl.2).1
  have hd1 : decide (typ < 0) = false := decide_eq_false (by omega)
  have hd2 : decide ((64 : Int) ≤ typ) = false := decide_eq_false (by omega)
  have w3 : IntKind.u64.wrap typ = typ := by rw [IntKind.wrap_u64]; omega
  obtain ⟨gs, os, hge, hgl, s0, s1, s2, s3, s4, s5, s6, s7⟩ := hsr.at_ hkl
  subst hge
  rw [hsk] at s0 s1 s2 s3 s4 s5 s6 s7
  simp only at s0 s1 s2 s3 s4 s5 s6 s7
  have HROW := Lib.hid (And.intro (s0) (And.intro (s1) (And.intro (s2) (And.intro (s3) (And.intro (s4) (And.intro (s5) (And.intro (s6) (s7))))))))
  have HGL := Lib.hid hgl
  clear hsr hsl hgm hgz hfl hpi hlo hhi hsp hsz hm hg hm8 hok hb0 hb1 hi hx hy hpm hq hkl hsk hgl s0 s1 s2 s3 s4 s5 s6 s7 hpc ht0 ht1 hown
  go_enter Try.func9, Try.ntmps9
  go_wp2_with fail
  refine (C0.out _).mono ?_; rintro e w2 ⟨rfl, hb⟩
  have O2 : Hid (BoxN w2 w.heap.size #[v0, v1, .slice ga m gc, .slice (some ⟨gs, os, none⟩) ms sc, v4, v5, v6]) := Lib.hid (boxN_below (boxN_below (BoxN.new w #[v0, v1, .slice ga m gc, .slice (some ⟨gs, os, none⟩) ms sc, v4, v5, v6] 28) (bAlloc (bAlloc (Below.refl _ _) _) _)) hb)
  have X2 : Hid (BoxN w2 (w.heap.size + 1) #[.int .u64 0, .int .u64 0, .int .u64 0, .int .i64 0, .int .i64 0, .bool false]) := Lib.hid (by
    have h := BoxN.new (w.alloc (.cells #[v0, v1, .slice ga m gc, .slice (some ⟨gs, os, none⟩) ms sc, v4, v5, v6] 28)) #[.int .u64 0, .int .u64 0, .int .u64 0, .int .i64 0, .int .i64 0, .bool false] 37
    rw [size_alloc] at h
    exact boxN_below (boxN_below h (bAlloc (Below.refl _ _) _)) hb)
  have Y2 : Hid (BoxN w2 (w.heap.size + 1 + 1) #[.int .u64 0, .int .u64 0, .int .u64 0, .int .i64 0, .int .i64 0, .bool false]) := Lib.hid (by
    have h := BoxN.new ((w.alloc (.cells #[v0, v1, .slice ga m gc, .slice (some ⟨gs, os, none⟩) ms sc, v4, v5, v6] 28)).alloc (.cells #[.int .u64 0, .int .u64 0, .int .u64 0, .int .i64 0, .int .i64 0, .bool false] 37)) #[.int .u64 0, .int .u64 0, .int .u64 0, .int .i64 0, .int .i64 0, .bool false] 37
    rw [size_alloc, size_alloc] at h
    exact boxN_below h hb)
  have B2 := Lib.hid ((bAlloc (bAlloc (bAlloc (Below.refl w.heap.size w) (.cells #[v0, v1, .slice ga m gc, .slice (some ⟨gs, os, none⟩) ms sc, v4, v5, v6] 28)) (.cells #[.int .u64 0, .int .u64 0, .int .u64 0, .int .i64 0, .int .i64 0, .bool false] 37)) (.cells #[.int .u64 0, .int .u64 0, .int .u64 0, .int .i64 0, .int .i64 0, .bool false] 37)).trans (hb.mono (by rw [size_alloc, size_alloc, size_alloc]; omega)))
  clear hb
  have o0 : w2.cell? ⟨w.heap.size, 0, none⟩ = some (v0) := O2.out.cell 0
  have o1 : w2.cell? ⟨w.heap.size, 1, none⟩ = some (v1) := O2.out.cell 1
  have o2 : w2.cell? ⟨w.heap.size, 2, none⟩ = some (.slice ga m gc) := O2.out.cell 2
  have o3 : w2.cell? ⟨w.heap.size, 3, none⟩ = some (.slice (some ⟨gs, os, none⟩) ms sc) := O2.out.cell 3
  have o4 : w2.cell? ⟨w.heap.size, 4, none⟩ = some (v4) := O2.out.cell 4
  have o5 : w2.cell? ⟨w.heap.size, 5, none⟩ = some (v5) := O2.out.cell 5
  have o6 : w2.cell? ⟨w.heap.size, 6, none⟩ = some (v6) := O2.out.cell 6
  go_upto_region 3 with fail
  obtain ⟨B, hB⟩ : ∃ B, w.heap.size = B := ⟨_, rfl⟩
  have HB := Lib.hid hB
  have hgB : gs < B := by have := HGL.out; omega
  rw [hB] at O2 X2 Y2 o0 o1 o2 o3 o4 o5 o6 ⊢
  clear hB
  have HS0 := Lib.hid (And.intro (o0) (And.intro (o1) (And.intro (o2) (And.intro (o3) (And.intro (o4) (And.intro (o5) (And.intro (o6) (And.intro (cell_below B2.out HROW.out.1) (And.intro (cell_below B2.out HROW.out.2.1) (And.intro (cell_below B2.out HROW.out.2.2.1) (And.intro (cell_below B2.out HROW.out.2.2.2.1) (And.intro (cell_below B2.out HROW.out.2.2.2.2.1) (And.intro (cell_below B2.out HROW.out.2.2.2.2.2.1) (And.intro (cell_below B2.out HROW.out.2.2.2.2.2.2.1) (cell_below B2.out HROW.out.2.2.2.2.2.2.2)))))))))))))))
  have HSd : Hid (w2.drew.cell? ⟨B, 0, none⟩ = some v0 ∧ w2.drew.cell? ⟨B, 1, none⟩ = some v1 ∧ w2.drew.cell? ⟨B, 2, none⟩ = some (.slice ga m gc) ∧ w2.drew.cell? ⟨B, 3, none⟩ = some (.slice (some ⟨gs, os, none⟩) ms sc) ∧ w2.drew.cell? ⟨B, 4, none⟩ = some v4 ∧ w2.drew.cell? ⟨B, 5, none⟩ = some v5 ∧ w2.drew.cell? ⟨B, 6, none⟩ = some v6 ∧ w2.drew.cell? ⟨gs, os + k2 * 8, none⟩ = some (.string ⟨nm.toArray⟩) ∧ w2.drew.cell? ⟨gs, os + k2 * 8 + 1, none⟩ = some (.string ⟨vr.toArray⟩) ∧ w2.drew.cell? ⟨gs, os + k2 * 8 + 2, none⟩ = some (.int .u64 sp) ∧ w2.drew.cell? ⟨gs, os + k2 * 8 + 3, none⟩ = some (.int .u64 sz) ∧ w2.drew.cell? ⟨gs, os + k2 * 8 + 4, none⟩ = some (.int .i64 kd) ∧ w2.drew.cell? ⟨gs, os + k2 * 8 + 5, none⟩ = some (.int .i64 bd) ∧ w2.drew.cell? ⟨gs, os + k2 * 8 + 6, none⟩ = some (.int .i64 sn) ∧ w2.drew.cell? ⟨gs, os + k2 * 8 + 7, none⟩ = some (.bool df)) := Lib.hid HS0.out
  clear o0 o1 o2 o3 o4 o5 o6
  go_region_held3 (fun W => W.cell? ⟨B, 0, none⟩ = some v0 ∧ W.cell? ⟨B, 1, none⟩ = some v1 ∧ W.cell? ⟨B, 2, none⟩ = some (.slice ga m gc) ∧ W.cell? ⟨B, 3, none⟩ = some (.slice (some ⟨gs, os, none⟩) ms sc) ∧ W.cell? ⟨B, 4, none⟩ = some v4 ∧ W.cell? ⟨B, 5, none⟩ = some v5 ∧ W.cell? ⟨B, 6, none⟩ = some v6 ∧ W.cell? ⟨gs, os + k2 * 8, none⟩ = some (.string ⟨nm.toArray⟩) ∧ W.cell? ⟨gs, os + k2 * 8 + 1, none⟩ = some (.string ⟨vr.toArray⟩) ∧ W.cell? ⟨gs, os + k2 * 8 + 2, none⟩ = some (.int .u64 sp) ∧ W.cell? ⟨gs, os + k2 * 8 + 3, none⟩ = some (.int .u64 sz) ∧ W.cell? ⟨gs, os + k2 * 8 + 4, none⟩ = some (.int .i64 kd) ∧ W.cell? ⟨gs, os + k2 * 8 + 5, none⟩ = some (.int .i64 bd) ∧ W.cell? ⟨gs, os + k2 * 8 + 6, none⟩ = some (.int .i64 sn) ∧ W.cell? ⟨gs, os + k2 * 8 + 7, none⟩ = some (.bool df))
    (first | with_reducible exact HSd.out | with_reducible exact HS5.out | with_reducible exact HSK.out | go_keep)
    (first
      | (go_at_call 19; refine (C1.out _ (Below.drew B2.out)).mono ?_; rintro e w5 ⟨rfl, hb⟩; have hb2 : Below w2.heap.size w2 w5 := (by first | exact hb | exact undrewT hb); have HS5 := Lib.hid (And.intro (cell_below hb2 HS0.out.1) (And.intro (cell_below hb2 HS0.out.2.1) (And.intro (cell_below hb2 HS0.out.2.2.1) (And.intro (cell_below hb2 HS0.out.2.2.2.1) (And.intro (cell_below hb2 HS0.out.2.2.2.2.1) (And.intro (cell_below hb2 HS0.out.2.2.2.2.2.1) (And.intro (cell_below hb2 HS0.out.2.2.2.2.2.2.1) (And.intro (cell_below hb2 HS0.out.2.2.2.2.2.2.2.1) (And.intro (cell_below hb2 HS0.out.2.2.2.2.2.2.2.2.1) (And.intro (cell_below hb2 HS0.out.2.2.2.2.2.2.2.2.2.1) (And.intro (cell_below hb2 HS0.out.2.2.2.2.2.2.2.2.2.2.1) (And.intro (cell_below hb2 HS0.out.2.2.2.2.2.2.2.2.2.2.2.1) (And.intro (cell_below hb2 HS0.out.2.2.2.2.2.2.2.2.2.2.2.2.1) (And.intro (cell_below hb2 HS0.out.2.2.2.2.2.2.2.2.2.2.2.2.2.1) (cell_below hb2 HS0.out.2.2.2.2.2.2.2.2.2.2.2.2.2.2))))))))))))))); have X5 := Lib.hid (boxN_below X2.out hb2); have Y5 := Lib.hid (boxN_below Y2.out hb2); have O5 := Lib.hid (boxN_below O2.out hb2); have B5 := Lib.hid (B2.out.trans (hb2.mono B2.out.size)); have HSK := Lib.hid (And.intro ((cell_set6 (W := w5) (b := B + 1) (B := B) (0) (.int .u64 x) (.int .u64 y) (.int .u64 q) (.int .i64 pm) (.int .i64 (-1)) (.bool true) (by omega)).trans HS5.out.1) (And.intro ((cell_set6 (W := w5) (b := B + 1) (B := B) (1) (.int .u64 x) (.int .u64 y) (.int .u64 q) (.int .i64 pm) (.int .i64 (-1)) (.bool true) (by omega)).trans HS5.out.2.1) (And.intro ((cell_set6 (W := w5) (b := B + 1) (B := B) (2) (.int .u64 x) (.int .u64 y) (.int .u64 q) (.int .i64 pm) (.int .i64 (-1)) (.bool true) (by omega)).trans HS5.out.2.2.1) (And.intro ((cell_set6 (W := w5) (b := B + 1) (B := B) (3) (.int .u64 x) (.int .u64 y) (.int .u64 q) (.int .i64 pm) (.int .i64 (-1)) (.bool true) (by omega)).trans HS5.out.2.2.2.1) (And.intro ((cell_set6 (W := w5) (b := B + 1) (B := B) (4) (.int .u64 x) (.int .u64 y) (.int .u64 q) (.int .i64 pm) (.int .i64 (-1)) (.bool true) (by omega)).trans HS5.out.2.2.2.2.1) (And.intro ((cell_set6 (W := w5) (b := B + 1) (B := B) (5) (.int .u64 x) (.int .u64 y) (.int .u64 q) (.int .i64 pm) (.int .i64 (-1)) (.bool true) (by omega)).trans HS5.out.2.2.2.2.2.1) (And.intro ((cell_set6 (W := w5) (b := B + 1) (B := B) (6) (.int .u64 x) (.int .u64 y) (.int .u64 q) (.int .i64 pm) (.int .i64 (-1)) (.bool true) (by omega)).trans HS5.out.2.2.2.2.2.2.1) (And.intro ((cell_set6 (W := w5) (b := B + 1) (B := gs) (os + k2 * 8) (.int .u64 x) (.int .u64 y) (.int .u64 q) (.int .i64 pm) (.int .i64 (-1)) (.bool true) (by omega)).trans HS5.out.2.2.2.2.2.2.2.1) (And.intro ((cell_set6 (W := w5) (b := B + 1) (B := gs) (os + k2 * 8 + 1) (.int .u64 x) (.int .u64 y) (.int .u64 q) (.int .i64 pm) (.int .i64 (-1)) (.bool true) (by omega)).trans HS5.out.2.2.2.2.2.2.2.2.1) (And.intro ((cell_set6 (W := w5) (b := B + 1) (B := gs) (os + k2 * 8 + 2) (.int .u64 x) (.int .u64 y) (.int .u64 q) (.int .i64 pm) (.int .i64 (-1)) (.bool true) (by omega)).trans HS5.out.2.2.2.2.2.2.2.2.2.1) (And.intro ((cell_set6 (W := w5) (b := B + 1) (B := gs) (os + k2 * 8 + 3) (.int .u64 x) (.int .u64 y) (.int .u64 q) (.int .i64 pm) (.int .i64 (-1)) (.bool true) (by omega)).trans HS5.out.2.2.2.2.2.2.2.2.2.2.1) (And.intro ((cell_set6 (W := w5) (b := B + 1) (B := gs) (os + k2 * 8 + 4) (.int .u64 x) (.int .u64 y) (.int .u64 q) (.int .i64 pm) (.int .i64 (-1)) (.bool true) (by omega)).trans HS5.out.2.2.2.2.2.2.2.2.2.2.2.1) (And.intro ((cell_set6 (W := w5) (b := B + 1) (B := gs) (os + k2 * 8 + 5) (.int .u64 x) (.int .u64 y) (.int .u64 q) (.int .i64 pm) (.int .i64 (-1)) (.bool true) (by omega)).trans HS5.out.2.2.2.2.2.2.2.2.2.2.2.2.1) (And.intro ((cell_set6 (W := w5) (b := B + 1) (B := gs) (os + k2 * 8 + 6) (.int .u64 x) (.int .u64 y) (.int .u64 q) (.int .i64 pm) (.int .i64 (-1)) (.bool true) (by omega)).trans HS5.out.2.2.2.2.2.2.2.2.2.2.2.2.2.1) ((cell_set6 (W := w5) (b := B + 1) (B := gs) (os + k2 * 8 + 7) (.int .u64 x) (.int .u64 y) (.int .u64 q) (.int .i64 pm) (.int .i64 (-1)) (.bool true) (by omega)).trans HS5.out.2.2.2.2.2.2.2.2.2.2.2.2.2.2))))))))))))))); obtain ⟨⟨c0, c1, c2, c3, c4, c5⟩, f0, f1, f2, f3, f4, f5⟩ := boxN6 X5.out; clear hb hb2))
  clear c0 c1 c2 c3 c4 c5 f0 f1 f2 f3 f4 f5
  obtain ⟨V4, hV4⟩ : ∃ W, ((((((w5.setCell ⟨B + 1, 0, none⟩ (.int .u64 x)).setCell ⟨B + 1, 1, none⟩ (.int .u64 y)).setCell ⟨B + 1, 2, none⟩ (.int .u64 q)).setCell ⟨B + 1, 3, none⟩ (.int .i64 pm)).setCell ⟨B + 1, 4, none⟩ (.int .i64 (-1))).setCell ⟨B + 1, 5, none⟩ (.bool true)) = W := ⟨_, rfl⟩
  rw [hV4]
  have X4 : Hid (BoxN V4 (B + 1) #[.int .u64 x, .int .u64 y, .int .u64 q, .int .i64 pm, .int .i64 (-1), .bool true]) := Lib.hid (by rw [← hV4]; exact boxN_set6 X5.out _ _ _ _ _ _)
  have Y4 : Hid (BoxN V4 (B + 1 + 1) #[.int .u64 0, .int .u64 0, .int .u64 0, .int .i64 0, .int .i64 0, .bool false]) := Lib.hid (by rw [← hV4]; exact boxN_keep6 Y5.out _ _ _ _ _ _ (by omega))
  have O4 : Hid (BoxN V4 B #[v0, v1, .slice ga m gc, .slice (some ⟨gs, os, none⟩) ms sc, v4, v5, v6]) := Lib.hid (by rw [← hV4]; exact boxN_keep6 O5.out _ _ _ _ _ _ (by omega))
  have B4 : Hid (Below w.heap.size w V4) := Lib.hid (by rw [← hV4]; exact below_set6 B5.out (by have := HB.out; omega))
  clear hV4 X5 Y5 O5 B5 HSK HS5 HSd HS0 X2 Y2 O2 B2
  have x3 : V4.cell? ⟨B + 1, 3, none⟩ = some (.int .i64 pm) := X4.out.cell 3
  have z3 : V4.frozen? ⟨B + 1, 3, none⟩ = false := X4.out.frozen 3
  go_upto_region 5 with fail
  obtain ⟨V5, hV5⟩ : ∃ W, V4.setCell ⟨B + 1, 3, none⟩ (.int .i64 pc) = W := ⟨_, rfl⟩
  rw [hV5]
  have X5 : Hid (BoxN V5 (B + 1) #[.int .u64 x, .int .u64 y, .int .u64 q, .int .i64 pc, .int .i64 (-1), .bool true]) := Lib.hid (by rw [← hV5]; exact X4.out.set 3 (.int .i64 pc))
  have Y5 : Hid (BoxN V5 (B + 1 + 1) #[.int .u64 0, .int .u64 0, .int .u64 0, .int .i64 0, .int .i64 0, .bool false]) := Lib.hid (by rw [← hV5]; exact boxN_far Y4.out _ _ (by omega))
  have O5 : Hid (BoxN V5 B #[v0, v1, .slice ga m gc, .slice (some ⟨gs, os, none⟩) ms sc, v4, v5, v6]) := Lib.hid (by rw [← hV5]; exact boxN_far O4.out _ _ (by omega))
  have B5 : Hid (Below w.heap.size w V5) := Lib.hid (by rw [← hV5]; exact Below.setCell (p := ⟨B + 1, 3, none⟩) B4.out (by show w.heap.size ≤ B + 1; have := HB.out; omega) _)
  clear hV5 X4 Y4 O4 B4 x3 z3
  go_wp2_with fail
  refine (root_x 64 _).mono ?_; rintro e w6 ⟨rfl, hb⟩
  have X6 := Lib.hid (boxN_below X5.out hb)
  have Y6 := Lib.hid (boxN_below Y5.out hb)
  have O6 := Lib.hid (boxN_below O5.out hb)
  have B6 := Lib.hid (B5.out.trans (hb.mono B5.out.size))
  clear hb X5 Y5 O5 B5
  go_wp2_with fail
  refine (move_x 0 64 0 255 typ _).mono ?_; rintro e w7 ⟨rfl, hb⟩
  have X7 := Lib.hid (boxN_below X6.out hb)
  have Y7 := Lib.hid (boxN_below Y6.out hb)
  have O7 := Lib.hid (boxN_below O6.out hb)
  have B7 := Lib.hid (B6.out.trans (hb.mono B6.out.size))
  clear hb X6 Y6 O6 B6
  go_upto_region 6 with fail
  obtain ⟨W8, hW8⟩ : ∃ W, w7.alloc (.cells #[.int .u64 0, .int .u64 64, .int .u64 typ, .int .i64 255, .int .i64 (-1), .bool true] 37) = W := ⟨_, rfl⟩
  rw [hW8]
  have X8 : Hid (BoxN W8 (B + 1) #[.int .u64 x, .int .u64 y, .int .u64 q, .int .i64 pc, .int .i64 (-1), .bool true]) := Lib.hid (by rw [← hW8]; exact boxN_below X7.out (bAlloc (Below.refl _ _) _))
  have Y8 : Hid (BoxN W8 (B + 1 + 1) #[.int .u64 0, .int .u64 0, .int .u64 0, .int .i64 0, .int .i64 0, .bool false]) := Lib.hid (by rw [← hW8]; exact boxN_below Y7.out (bAlloc (Below.refl _ _) _))
  have O8 : Hid (BoxN W8 B #[v0, v1, .slice ga m gc, .slice (some ⟨gs, os, none⟩) ms sc, v4, v5, v6]) := Lib.hid (by rw [← hW8]; exact boxN_below O7.out (bAlloc (Below.refl _ _) _))
  have B8 : Hid (Below w.heap.size w W8) := Lib.hid (by rw [← hW8]; exact bAlloc B7.out _)
  have K8 : Hid (BoxN W8 w7.heap.size #[.int .u64 0, .int .u64 64, .int .u64 typ, .int .i64 255, .int .i64 (-1), .bool true]) := Lib.hid (by rw [← hW8]; exact BoxN.new w7 _ _)
  have hK2 := Y7.out.lt
  clear hW8 X7 Y7 O7 B7
  obtain ⟨K, hK⟩ : ∃ K, w7.heap.size = K := ⟨_, rfl⟩
  rw [hK] at K8 hK2 ⊢
  clear hK
  have o0 : W8.cell? ⟨B, 0, none⟩ = some (v0) := O8.out.cell 0
  have o1 : W8.cell? ⟨B, 1, none⟩ = some (v1) := O8.out.cell 1
  have o2 : W8.cell? ⟨B, 2, none⟩ = some (.slice ga m gc) := O8.out.cell 2
  have o3 : W8.cell? ⟨B, 3, none⟩ = some (.slice (some ⟨gs, os, none⟩) ms sc) := O8.out.cell 3
  have o4 : W8.cell? ⟨B, 4, none⟩ = some (v4) := O8.out.cell 4
  have o5 : W8.cell? ⟨B, 5, none⟩ = some (v5) := O8.out.cell 5
  have o6 : W8.cell? ⟨B, 6, none⟩ = some (v6) := O8.out.cell 6
  have k0 : W8.cell? ⟨K, 0, none⟩ = some (.int .u64 0) := K8.out.cell 0
  have k1 : W8.cell? ⟨K, 1, none⟩ = some (.int .u64 64) := K8.out.cell 1
  have k2 : W8.cell? ⟨K, 2, none⟩ = some (.int .u64 typ) := K8.out.cell 2
  have k3 : W8.cell? ⟨K, 3, none⟩ = some (.int .i64 255) := K8.out.cell 3
  have k4 : W8.cell? ⟨K, 4, none⟩ = some (.int .i64 (-1)) := K8.out.cell 4
  have k5 : W8.cell? ⟨K, 5, none⟩ = some (.bool true) := K8.out.cell 5
  have HS0 := Lib.hid (And.intro (o0) (And.intro (o1) (And.intro (o2) (And.intro (o3) (And.intro (o4) (And.intro (o5) (And.intro (o6) (And.intro (k0) (And.intro (k1) (And.intro (k2) (And.intro (k3) (And.intro (k4) (k5)))))))))))))
  have HSd : Hid (W8.drew.cell? ⟨B, 0, none⟩ = some v0 ∧ W8.drew.cell? ⟨B, 1, none⟩ = some v1 ∧ W8.drew.cell? ⟨B, 2, none⟩ = some (.slice ga m gc) ∧ W8.drew.cell? ⟨B, 3, none⟩ = some (.slice (some ⟨gs, os, none⟩) ms sc) ∧ W8.drew.cell? ⟨B, 4, none⟩ = some v4 ∧ W8.drew.cell? ⟨B, 5, none⟩ = some v5 ∧ W8.drew.cell? ⟨B, 6, none⟩ = some v6 ∧ W8.drew.cell? ⟨K, 0, none⟩ = some (.int .u64 0) ∧ W8.drew.cell? ⟨K, 1, none⟩ = some (.int .u64 64) ∧ W8.drew.cell? ⟨K, 2, none⟩ = some (.int .u64 typ) ∧ W8.drew.cell? ⟨K, 3, none⟩ = some (.int .i64 255) ∧ W8.drew.cell? ⟨K, 4, none⟩ = some (.int .i64 (-1)) ∧ W8.drew.cell? ⟨K, 5, none⟩ = some (.bool true)) := Lib.hid HS0.out
  clear o0 o1 o2 o3 o4 o5 o6 k0 k1 k2 k3 k4 k5
  have c0 : W8.drew.cell? ⟨B + 1, 0, none⟩ = some (.int .u64 x) := X8.out.cell 0
  have c1 : W8.drew.cell? ⟨B + 1, 1, none⟩ = some (.int .u64 y) := X8.out.cell 1
  have c2 : W8.drew.cell? ⟨B + 1, 2, none⟩ = some (.int .u64 q) := X8.out.cell 2
  have c3 : W8.drew.cell? ⟨B + 1, 3, none⟩ = some (.int .i64 pc) := X8.out.cell 3
  have c4 : W8.drew.cell? ⟨B + 1, 4, none⟩ = some (.int .i64 (-1)) := X8.out.cell 4
  have c5 : W8.drew.cell? ⟨B + 1, 5, none⟩ = some (.bool true) := X8.out.cell 5
  have e0 : W8.cell? ⟨B + 1, 0, none⟩ = some (.int .u64 x) := X8.out.cell 0
  have e1 : W8.cell? ⟨B + 1, 1, none⟩ = some (.int .u64 y) := X8.out.cell 1
  have e2 : W8.cell? ⟨B + 1, 2, none⟩ = some (.int .u64 q) := X8.out.cell 2
  have e3 : W8.cell? ⟨B + 1, 3, none⟩ = some (.int .i64 pc) := X8.out.cell 3
  have e4 : W8.cell? ⟨B + 1, 4, none⟩ = some (.int .i64 (-1)) := X8.out.cell 4
  have e5 : W8.cell? ⟨B + 1, 5, none⟩ = some (.bool true) := X8.out.cell 5
  refine wp_region_held_drew (S := (fun W => W.cell? ⟨B, 0, none⟩ = some v0 ∧ W.cell? ⟨B, 1, none⟩ = some v1 ∧ W.cell? ⟨B, 2, none⟩ = some (.slice ga m gc) ∧ W.cell? ⟨B, 3, none⟩ = some (.slice (some ⟨gs, os, none⟩) ms sc) ∧ W.cell? ⟨B, 4, none⟩ = some v4 ∧ W.cell? ⟨B, 5, none⟩ = some v5 ∧ W.cell? ⟨B, 6, none⟩ = some v6 ∧ W.cell? ⟨K, 0, none⟩ = some (.int .u64 0) ∧ W.cell? ⟨K, 1, none⟩ = some (.int .u64 64) ∧ W.cell? ⟨K, 2, none⟩ = some (.int .u64 typ) ∧ W.cell? ⟨K, 3, none⟩ = some (.int .i64 255) ∧ W.cell? ⟨K, 4, none⟩ = some (.int .i64 (-1)) ∧ W.cell? ⟨K, 5, none⟩ = some (.bool true))) (by kernel_rfl) HSd.out (fun hHeld => ?_)
  refine wpAnyH_take (i := 1) (oi := { dst := some 42, op := .load 37 (.tmp 10), type := 37, pos := "table.go:49", after := #[], guard := none }) (v := ?_) rfl (by kernel_rfl) (by kernel_rfl) (by kernel_rfl) (fun _ _ _ h => h) (Or.inl ⟨by rfl, ?_⟩) (by assumption) ?_
  rotate_left
  · intro w hSw
    try dsimp only at hSw
    go_simp
    all_goals with_reducible rfl
  try simp only [Act.put, List.setIfInBounds_toArray, List.set_cons_zero, List.set_cons_succ]
  refine wpAnyH_take (i := 3) (oi := { dst := some 44, op := .load 28 (.tmp 4), type := 28, pos := "table.go:49", after := #[], guard := none }) (v := ?_) rfl (by kernel_rfl) (by kernel_rfl) (by kernel_rfl) (fun _ _ _ h => h) (Or.inl ⟨by rfl, ?_⟩) (by assumption) ?_
  rotate_left
  · intro w hSw
    try dsimp only at hSw
    go_simp
    all_goals with_reducible rfl
  try simp only [Act.put, List.setIfInBounds_toArray, List.set_cons_zero, List.set_cons_succ]
  refine wpAnyH_take (i := 4) (oi := { dst := some 45, op := .move (.tmp 1), type := 29, pos := "table.go:49", after := #[], guard := none }) (v := ?_) rfl (by kernel_rfl) (by kernel_rfl) (by kernel_rfl) (fun _ _ _ h => h) (Or.inl ⟨by rfl, ?_⟩) (by assumption) ?_
  rotate_left
  · intro w hSw
    try dsimp only at hSw
    go_simp
    all_goals with_reducible rfl
  try simp only [Act.put, List.setIfInBounds_toArray, List.set_cons_zero, List.set_cons_succ]
  refine wpAnyH_take (i := 6) (oi := { dst := some 47, op := .load 37 (.tmp 10), type := 37, pos := "table.go:49", after := #[], guard := none }) (v := ?_) rfl (by kernel_rfl) (by kernel_rfl) (by kernel_rfl) (fun _ _ _ h => h) (Or.inl ⟨by rfl, ?_⟩) (by assumption) ?_
  rotate_left
  · intro w hSw
    try dsimp only at hSw
    go_simp
    all_goals with_reducible rfl
  try simp only [Act.put, List.setIfInBounds_toArray, List.set_cons_zero, List.set_cons_succ]
  refine wpAnyH_ready (rs := [0]) (by kernel_rfl) (by simp) ?_
  refine AllReadyH.cons (o := { dst := some 41, op := .load 37 (.tmp 8), type := 37, pos := "table.go:49", after := #[], guard := none }) rfl (fun KC hKC => ?_) AllReadyH.nil
  go_simp
  refine hKC.out _ _ ?_ (fun hHeld => ?_)
  · with_reducible exact HSd.out
  clear hKC KC
  try simp only [Act.put, List.setIfInBounds_toArray, List.set_cons_zero, List.set_cons_succ]
  refine wpAnyH_ready (rs := [2]) (by kernel_rfl) (by simp) ?_
  refine AllReadyH.cons (o := { dst := some 43, op := .call { callee := .value (.func 24), args := #[.tmp 41, .tmp 42], argTypes := #[37, 37] }, type := 37, pos := "table.go:49", after := #[⟨0, .data⟩, ⟨1, .data⟩], guard := none }) rfl (fun KC hKC => ?_) AllReadyH.nil
  go_simp
  refine (C4.out _).mono ?_; rintro e wA ⟨rfl, hb⟩
  have hb2 : Below W8.heap.size W8 wA := by first | exact hb | exact undrewT hb
  have HSA := Lib.hid (And.intro (cell_below hb2 HS0.out.1) (And.intro (cell_below hb2 HS0.out.2.1) (And.intro (cell_below hb2 HS0.out.2.2.1) (And.intro (cell_below hb2 HS0.out.2.2.2.1) (And.intro (cell_below hb2 HS0.out.2.2.2.2.1) (And.intro (cell_below hb2 HS0.out.2.2.2.2.2.1) (And.intro (cell_below hb2 HS0.out.2.2.2.2.2.2.1) (And.intro (cell_below hb2 HS0.out.2.2.2.2.2.2.2.1) (And.intro (cell_below hb2 HS0.out.2.2.2.2.2.2.2.2.1) (And.intro (cell_below hb2 HS0.out.2.2.2.2.2.2.2.2.2.1) (And.intro (cell_below hb2 HS0.out.2.2.2.2.2.2.2.2.2.2.1) (And.intro (cell_below hb2 HS0.out.2.2.2.2.2.2.2.2.2.2.2.1) (cell_below hb2 HS0.out.2.2.2.2.2.2.2.2.2.2.2.2)))))))))))))
  have XA := Lib.hid (boxN_below X8.out hb2)
  have YA := Lib.hid (boxN_below Y8.out hb2)
  have BA := Lib.hid (B8.out.trans (hb2.mono B8.out.size))
  clear hb hb2 c0 c1 c2 c3 c4 c5 e0 e1 e2 e3 e4 e5
  go_wp2_with fail
  refine hKC.out _ _ ?_ (fun hHeld => ?_)
  · with_reducible exact HSA.out
  clear hKC KC
  try simp only [Act.put, List.setIfInBounds_toArray, List.set_cons_zero, List.set_cons_succ]
  refine wpAnyH_ready (rs := [5]) (by kernel_rfl) (by simp) ?_
  refine AllReadyH.cons (o := { dst := some 46, op := .call { callee := .value (.func 25), args := #[.tmp 44, .tmp 45], argTypes := #[28, 29] }, type := 37, pos := "table.go:49", after := #[⟨3, .data⟩, ⟨4, .data⟩, ⟨2, .chain⟩], guard := none }) rfl (fun KC hKC => ?_) AllReadyH.nil
  go_simp
  refine (C5.out _ BA.out).mono ?_; rintro e wB ⟨rfl, hb⟩
  have HSB := Lib.hid (And.intro (cell_below hb HSA.out.1) (And.intro (cell_below hb HSA.out.2.1) (And.intro (cell_below hb HSA.out.2.2.1) (And.intro (cell_below hb HSA.out.2.2.2.1) (And.intro (cell_below hb HSA.out.2.2.2.2.1) (And.intro (cell_below hb HSA.out.2.2.2.2.2.1) (And.intro (cell_below hb HSA.out.2.2.2.2.2.2.1) (And.intro (cell_below hb HSA.out.2.2.2.2.2.2.2.1) (And.intro (cell_below hb HSA.out.2.2.2.2.2.2.2.2.1) (And.intro (cell_below hb HSA.out.2.2.2.2.2.2.2.2.2.1) (And.intro (cell_below hb HSA.out.2.2.2.2.2.2.2.2.2.2.1) (And.intro (cell_below hb HSA.out.2.2.2.2.2.2.2.2.2.2.2.1) (cell_below hb HSA.out.2.2.2.2.2.2.2.2.2.2.2.2)))))))))))))
  have XB := Lib.hid (boxN_below XA.out hb)
  have YB := Lib.hid (boxN_below YA.out hb)
  have BB := Lib.hid (BA.out.trans (hb.mono BA.out.size))
  clear hb
  go_wp2_with fail
  refine hKC.out _ _ ?_ (fun hHeld => ?_)
  · with_reducible exact HSB.out
  clear hKC KC
  try simp only [Act.put, List.setIfInBounds_toArray, List.set_cons_zero, List.set_cons_succ]
  refine wpAnyH_ready (rs := [7]) (by kernel_rfl) (by simp) ?_
  refine AllReadyH.cons (o := { dst := some 48, op := .call { callee := .value (.func 24), args := #[.tmp 46, .tmp 47], argTypes := #[37, 37] }, type := 37, pos := "table.go:49", after := #[⟨5, .data⟩, ⟨6, .data⟩, ⟨5, .chain⟩], guard := none }) rfl (fun KC hKC => ?_) AllReadyH.nil
  go_simp
  refine (C6.out _).mono ?_; rintro e wC ⟨rfl, hb⟩
  have HSC := Lib.hid (And.intro (cell_below hb HSB.out.1) (And.intro (cell_below hb HSB.out.2.1) (And.intro (cell_below hb HSB.out.2.2.1) (And.intro (cell_below hb HSB.out.2.2.2.1) (And.intro (cell_below hb HSB.out.2.2.2.2.1) (And.intro (cell_below hb HSB.out.2.2.2.2.2.1) (And.intro (cell_below hb HSB.out.2.2.2.2.2.2.1) (And.intro (cell_below hb HSB.out.2.2.2.2.2.2.2.1) (And.intro (cell_below hb HSB.out.2.2.2.2.2.2.2.2.1) (And.intro (cell_below hb HSB.out.2.2.2.2.2.2.2.2.2.1) (And.intro (cell_below hb HSB.out.2.2.2.2.2.2.2.2.2.2.1) (And.intro (cell_below hb HSB.out.2.2.2.2.2.2.2.2.2.2.2.1) (cell_below hb HSB.out.2.2.2.2.2.2.2.2.2.2.2.2)))))))))))))
  have XC := Lib.hid (boxN_below XB.out hb)
  have YC := Lib.hid (boxN_below YB.out hb)
  have BC := Lib.hid (BB.out.trans (hb.mono BB.out.size))
  have HSK := Lib.hid (And.intro ((cell_set6 (W := wC) (b := B + 1) (B := B) (0) (.int .u64 x) (.int .u64 y) (.int .u64 q) (.int .i64 pc) (.int .i64 typ) (.bool true) (by omega)).trans HSC.out.1) (And.intro ((cell_set6 (W := wC) (b := B + 1) (B := B) (1) (.int .u64 x) (.int .u64 y) (.int .u64 q) (.int .i64 pc) (.int .i64 typ) (.bool true) (by omega)).trans HSC.out.2.1) (And.intro ((cell_set6 (W := wC) (b := B + 1) (B := B) (2) (.int .u64 x) (.int .u64 y) (.int .u64 q) (.int .i64 pc) (.int .i64 typ) (.bool true) (by omega)).trans HSC.out.2.2.1) (And.intro ((cell_set6 (W := wC) (b := B + 1) (B := B) (3) (.int .u64 x) (.int .u64 y) (.int .u64 q) (.int .i64 pc) (.int .i64 typ) (.bool true) (by omega)).trans HSC.out.2.2.2.1) (And.intro ((cell_set6 (W := wC) (b := B + 1) (B := B) (4) (.int .u64 x) (.int .u64 y) (.int .u64 q) (.int .i64 pc) (.int .i64 typ) (.bool true) (by omega)).trans HSC.out.2.2.2.2.1) (And.intro ((cell_set6 (W := wC) (b := B + 1) (B := B) (5) (.int .u64 x) (.int .u64 y) (.int .u64 q) (.int .i64 pc) (.int .i64 typ) (.bool true) (by omega)).trans HSC.out.2.2.2.2.2.1) (And.intro ((cell_set6 (W := wC) (b := B + 1) (B := B) (6) (.int .u64 x) (.int .u64 y) (.int .u64 q) (.int .i64 pc) (.int .i64 typ) (.bool true) (by omega)).trans HSC.out.2.2.2.2.2.2.1) (And.intro ((cell_set6 (W := wC) (b := B + 1) (B := K) (0) (.int .u64 x) (.int .u64 y) (.int .u64 q) (.int .i64 pc) (.int .i64 typ) (.bool true) (by omega)).trans HSC.out.2.2.2.2.2.2.2.1) (And.intro ((cell_set6 (W := wC) (b := B + 1) (B := K) (1) (.int .u64 x) (.int .u64 y) (.int .u64 q) (.int .i64 pc) (.int .i64 typ) (.bool true) (by omega)).trans HSC.out.2.2.2.2.2.2.2.2.1) (And.intro ((cell_set6 (W := wC) (b := B + 1) (B := K) (2) (.int .u64 x) (.int .u64 y) (.int .u64 q) (.int .i64 pc) (.int .i64 typ) (.bool true) (by omega)).trans HSC.out.2.2.2.2.2.2.2.2.2.1) (And.intro ((cell_set6 (W := wC) (b := B + 1) (B := K) (3) (.int .u64 x) (.int .u64 y) (.int .u64 q) (.int .i64 pc) (.int .i64 typ) (.bool true) (by omega)).trans HSC.out.2.2.2.2.2.2.2.2.2.2.1) (And.intro ((cell_set6 (W := wC) (b := B + 1) (B := K) (4) (.int .u64 x) (.int .u64 y) (.int .u64 q) (.int .i64 pc) (.int .i64 typ) (.bool true) (by omega)).trans HSC.out.2.2.2.2.2.2.2.2.2.2.2.1) ((cell_set6 (W := wC) (b := B + 1) (B := K) (5) (.int .u64 x) (.int .u64 y) (.int .u64 q) (.int .i64 pc) (.int .i64 typ) (.bool true) (by omega)).trans HSC.out.2.2.2.2.2.2.2.2.2.2.2.2)))))))))))))
  have HSL := Lib.hid (And.intro ((cell_set6 (W := ((((((wC.setCell ⟨B + 1, 0, none⟩ (.int .u64 x)).setCell ⟨B + 1, 1, none⟩ (.int .u64 y)).setCell ⟨B + 1, 2, none⟩ (.int .u64 q)).setCell ⟨B + 1, 3, none⟩ (.int .i64 pc)).setCell ⟨B + 1, 4, none⟩ (.int .i64 typ)).setCell ⟨B + 1, 5, none⟩ (.bool true))) (b := B + 1 + 1) (B := B) (0) (.int .u64 ox) (.int .u64 oy) (.int .u64 ox) (.int .i64 op) (.int .i64 typ) (.bool true) (by omega)).trans HSK.out.1) (And.intro ((cell_set6 (W := ((((((wC.setCell ⟨B + 1, 0, none⟩ (.int .u64 x)).setCell ⟨B + 1, 1, none⟩ (.int .u64 y)).setCell ⟨B + 1, 2, none⟩ (.int .u64 q)).setCell ⟨B + 1, 3, none⟩ (.int .i64 pc)).setCell ⟨B + 1, 4, none⟩ (.int .i64 typ)).setCell ⟨B + 1, 5, none⟩ (.bool true))) (b := B + 1 + 1) (B := B) (1) (.int .u64 ox) (.int .u64 oy) (.int .u64 ox) (.int .i64 op) (.int .i64 typ) (.bool true) (by omega)).trans HSK.out.2.1) (And.intro ((cell_set6 (W := ((((((wC.setCell ⟨B + 1, 0, none⟩ (.int .u64 x)).setCell ⟨B + 1, 1, none⟩ (.int .u64 y)).setCell ⟨B + 1, 2, none⟩ (.int .u64 q)).setCell ⟨B + 1, 3, none⟩ (.int .i64 pc)).setCell ⟨B + 1, 4, none⟩ (.int .i64 typ)).setCell ⟨B + 1, 5, none⟩ (.bool true))) (b := B + 1 + 1) (B := B) (2) (.int .u64 ox) (.int .u64 oy) (.int .u64 ox) (.int .i64 op) (.int .i64 typ) (.bool true) (by omega)).trans HSK.out.2.2.1) (And.intro ((cell_set6 (W := ((((((wC.setCell ⟨B + 1, 0, none⟩ (.int .u64 x)).setCell ⟨B + 1, 1, none⟩ (.int .u64 y)).setCell ⟨B + 1, 2, none⟩ (.int .u64 q)).setCell ⟨B + 1, 3, none⟩ (.int .i64 pc)).setCell ⟨B + 1, 4, none⟩ (.int .i64 typ)).setCell ⟨B + 1, 5, none⟩ (.bool true))) (b := B + 1 + 1) (B := B) (3) (.int .u64 ox) (.int .u64 oy) (.int .u64 ox) (.int .i64 op) (.int .i64 typ) (.bool true) (by omega)).trans HSK.out.2.2.2.1) (And.intro ((cell_set6 (W := ((((((wC.setCell ⟨B + 1, 0, none⟩ (.int .u64 x)).setCell ⟨B + 1, 1, none⟩ (.int .u64 y)).setCell ⟨B + 1, 2, none⟩ (.int .u64 q)).setCell ⟨B + 1, 3, none⟩ (.int .i64 pc)).setCell ⟨B + 1, 4, none⟩ (.int .i64 typ)).setCell ⟨B + 1, 5, none⟩ (.bool true))) (b := B + 1 + 1) (B := B) (4) (.int .u64 ox) (.int .u64 oy) (.int .u64 ox) (.int .i64 op) (.int .i64 typ) (.bool true) (by omega)).trans HSK.out.2.2.2.2.1) (And.intro ((cell_set6 (W := ((((((wC.setCell ⟨B + 1, 0, none⟩ (.int .u64 x)).setCell ⟨B + 1, 1, none⟩ (.int .u64 y)).setCell ⟨B + 1, 2, none⟩ (.int .u64 q)).setCell ⟨B + 1, 3, none⟩ (.int .i64 pc)).setCell ⟨B + 1, 4, none⟩ (.int .i64 typ)).setCell ⟨B + 1, 5, none⟩ (.bool true))) (b := B + 1 + 1) (B := B) (5) (.int .u64 ox) (.int .u64 oy) (.int .u64 ox) (.int .i64 op) (.int .i64 typ) (.bool true) (by omega)).trans HSK.out.2.2.2.2.2.1) (And.intro ((cell_set6 (W := ((((((wC.setCell ⟨B + 1, 0, none⟩ (.int .u64 x)).setCell ⟨B + 1, 1, none⟩ (.int .u64 y)).setCell ⟨B + 1, 2, none⟩ (.int .u64 q)).setCell ⟨B + 1, 3, none⟩ (.int .i64 pc)).setCell ⟨B + 1, 4, none⟩ (.int .i64 typ)).setCell ⟨B + 1, 5, none⟩ (.bool true))) (b := B + 1 + 1) (B := B) (6) (.int .u64 ox) (.int .u64 oy) (.int .u64 ox) (.int .i64 op) (.int .i64 typ) (.bool true) (by omega)).trans HSK.out.2.2.2.2.2.2.1) (And.intro ((cell_set6 (W := ((((((wC.setCell ⟨B + 1, 0, none⟩ (.int .u64 x)).setCell ⟨B + 1, 1, none⟩ (.int .u64 y)).setCell ⟨B + 1, 2, none⟩ (.int .u64 q)).setCell ⟨B + 1, 3, none⟩ (.int .i64 pc)).setCell ⟨B + 1, 4, none⟩ (.int .i64 typ)).setCell ⟨B + 1, 5, none⟩ (.bool true))) (b := B + 1 + 1) (B := K) (0) (.int .u64 ox) (.int .u64 oy) (.int .u64 ox) (.int .i64 op) (.int .i64 typ) (.bool true) (by omega)).trans HSK.out.2.2.2.2.2.2.2.1) (And.intro ((cell_set6 (W := ((((((wC.setCell ⟨B + 1, 0, none⟩ (.int .u64 x)).setCell ⟨B + 1, 1, none⟩ (.int .u64 y)).setCell ⟨B + 1, 2, none⟩ (.int .u64 q)).setCell ⟨B + 1, 3, none⟩ (.int .i64 pc)).setCell ⟨B + 1, 4, none⟩ (.int .i64 typ)).setCell ⟨B + 1, 5, none⟩ (.bool true))) (b := B + 1 + 1) (B := K) (1) (.int .u64 ox) (.int .u64 oy) (.int .u64 ox) (.int .i64 op) (.int .i64 typ) (.bool true) (by omega)).trans HSK.out.2.2.2.2.2.2.2.2.1) (And.intro ((cell_set6 (W := ((((((wC.setCell ⟨B + 1, 0, none⟩ (.int .u64 x)).setCell ⟨B + 1, 1, none⟩ (.int .u64 y)).setCell ⟨B + 1, 2, none⟩ (.int .u64 q)).setCell ⟨B + 1, 3, none⟩ (.int .i64 pc)).setCell ⟨B + 1, 4, none⟩ (.int .i64 typ)).setCell ⟨B + 1, 5, none⟩ (.bool true))) (b := B + 1 + 1) (B := K) (2) (.int .u64 ox) (.int .u64 oy) (.int .u64 ox) (.int .i64 op) (.int .i64 typ) (.bool true) (by omega)).trans HSK.out.2.2.2.2.2.2.2.2.2.1) (And.intro ((cell_set6 (W := ((((((wC.setCell ⟨B + 1, 0, none⟩ (.int .u64 x)).setCell ⟨B + 1, 1, none⟩ (.int .u64 y)).setCell ⟨B + 1, 2, none⟩ (.int .u64 q)).setCell ⟨B + 1, 3, none⟩ (.int .i64 pc)).setCell ⟨B + 1, 4, none⟩ (.int .i64 typ)).setCell ⟨B + 1, 5, none⟩ (.bool true))) (b := B + 1 + 1) (B := K) (3) (.int .u64 ox) (.int .u64 oy) (.int .u64 ox) (.int .i64 op) (.int .i64 typ) (.bool true) (by omega)).trans HSK.out.2.2.2.2.2.2.2.2.2.2.1) (And.intro ((cell_set6 (W := ((((((wC.setCell ⟨B + 1, 0, none⟩ (.int .u64 x)).setCell ⟨B + 1, 1, none⟩ (.int .u64 y)).setCell ⟨B + 1, 2, none⟩ (.int .u64 q)).setCell ⟨B + 1, 3, none⟩ (.int .i64 pc)).setCell ⟨B + 1, 4, none⟩ (.int .i64 typ)).setCell ⟨B + 1, 5, none⟩ (.bool true))) (b := B + 1 + 1) (B := K) (4) (.int .u64 ox) (.int .u64 oy) (.int .u64 ox) (.int .i64 op) (.int .i64 typ) (.bool true) (by omega)).trans HSK.out.2.2.2.2.2.2.2.2.2.2.2.1) ((cell_set6 (W := ((((((wC.setCell ⟨B + 1, 0, none⟩ (.int .u64 x)).setCell ⟨B + 1, 1, none⟩ (.int .u64 y)).setCell ⟨B + 1, 2, none⟩ (.int .u64 q)).setCell ⟨B + 1, 3, none⟩ (.int .i64 pc)).setCell ⟨B + 1, 4, none⟩ (.int .i64 typ)).setCell ⟨B + 1, 5, none⟩ (.bool true))) (b := B + 1 + 1) (B := K) (5) (.int .u64 ox) (.int .u64 oy) (.int .u64 ox) (.int .i64 op) (.int .i64 typ) (.bool true) (by omega)).trans HSK.out.2.2.2.2.2.2.2.2.2.2.2.2)))))))))))))
  clear hb
  obtain ⟨⟨c0, c1, c2, c3, c4, c5⟩, f0, f1, f2, f3, f4, f5⟩ := boxN6 XC.out
  obtain ⟨⟨y0, y1, y2, y3, y4, y5⟩, z0, z1, z2, z3, z4, z5⟩ := boxN6 YC.out
  go_wp2_with fail
  refine hKC.out _ _ ?_ (fun hHeld => ?_)
  · with_reducible exact HSC.out
  clear hKC KC
  try simp only [Act.put, List.setIfInBounds_toArray, List.set_cons_zero, List.set_cons_succ]
  refine wpAnyH_ready (rs := [8]) (by kernel_rfl) (by simp) ?_
  refine AllReadyH.cons (o := { dst := none, op := .store 37 (.tmp 8) (.tmp 43), type := 0, pos := "table.go:49", after := #[⟨2, .data⟩, ⟨7, .chain⟩, ⟨0, .phase⟩, ⟨1, .phase⟩, ⟨2, .phase⟩, ⟨3, .textOnly .lateStores⟩, ⟨4, .textOnly .lateStores⟩, ⟨5, .textOnly .lateStoresUnsure⟩, ⟨6, .textOnly .lateStores⟩, ⟨7, .textOnly .lateStoresUnsure⟩], guard := none }) rfl (fun KC hKC => ?_) AllReadyH.nil
  go_simp
  refine hKC.out _ _ ?_ (fun hHeld => ?_)
  · with_reducible exact HSK.out
  clear hKC KC
  try simp only [Act.put, List.setIfInBounds_toArray, List.set_cons_zero, List.set_cons_succ]
  refine wpAnyH_ready (rs := [9]) (by kernel_rfl) (by simp) ?_
  refine AllReadyH.cons (o := { dst := none, op := .store 37 (.tmp 9) (.tmp 48), type := 0, pos := "table.go:49", after := #[⟨7, .data⟩, ⟨8, .chain⟩, ⟨0, .phase⟩, ⟨1, .phase⟩, ⟨2, .phase⟩, ⟨3, .phase⟩, ⟨4, .phase⟩, ⟨5, .phase⟩, ⟨6, .phase⟩, ⟨7, .phase⟩, ⟨8, .phase⟩], guard := none }) rfl (fun KC hKC => ?_) AllReadyH.nil
  go_simp
  refine hKC.out _ _ ?_ (fun hHeld => ?_)
  · with_reducible exact HSL.out
  clear hKC KC
  try simp only [Act.put, List.setIfInBounds_toArray, List.set_cons_zero, List.set_cons_succ]
  refine wpAnyH_done (by kernel_rfl) ?_ _
  clear c0 c1 c2 c3 c4 c5 f0 f1 f2 f3 f4 f5 y0 y1 y2 y3 y4 y5 z0 z1 z2 z3 z4 z5
  go_wp2_with fail
  obtain ⟨V9, hV9⟩ : ∃ W, ((((((((((((wC.setCell ⟨B + 1, 0, none⟩ (.int .u64 x)).setCell ⟨B + 1, 1, none⟩ (.int .u64 y)).setCell ⟨B + 1, 2, none⟩ (.int .u64 q)).setCell ⟨B + 1, 3, none⟩ (.int .i64 pc)).setCell ⟨B + 1, 4, none⟩ (.int .i64 typ)).setCell ⟨B + 1, 5, none⟩ (.bool true)).setCell ⟨B + 1 + 1, 0, none⟩ (.int .u64 ox)).setCell ⟨B + 1 + 1, 1, none⟩ (.int .u64 oy)).setCell ⟨B + 1 + 1, 2, none⟩ (.int .u64 ox)).setCell ⟨B + 1 + 1, 3, none⟩ (.int .i64 op)).setCell ⟨B + 1 + 1, 4, none⟩ (.int .i64 typ)).setCell ⟨B + 1 + 1, 5, none⟩ (.bool true)) = W := ⟨_, rfl⟩
  rw [hV9]
  have X9 : BoxN V9 (B + 1) #[.int .u64 x, .int .u64 y, .int .u64 q, .int .i64 pc, .int .i64 typ, .bool true] := by rw [← hV9]; exact boxN_keep6 (boxN_set6 XC.out _ _ _ _ _ _) _ _ _ _ _ _ (by omega)
  have Y9 : BoxN V9 (B + 1 + 1) #[.int .u64 ox, .int .u64 oy, .int .u64 ox, .int .i64 op, .int .i64 typ, .bool true] := by rw [← hV9]; exact boxN_set6 (boxN_keep6 YC.out _ _ _ _ _ _ (by omega)) _ _ _ _ _ _
  have B9 : Below w.heap.size w V9 := by rw [← hV9]; exact below_set6 (below_set6 BC.out (by have := HB.out; omega)) (by have := HB.out; omega)
  obtain ⟨⟨c0, c1, c2, c3, c4, c5⟩, -⟩ := boxN6 X9
  obtain ⟨⟨y0, y1, y2, y3, y4, y5⟩, -⟩ := boxN6 Y9
  clear hV9
  exact bodyPost_ret (v := .tuple #[.agg #[.int .u64 x, .int .u64 y, .int .u64 q, .int .i64 pc, .int .i64 typ, .bool true], .agg #[.int .u64 ox, .int .u64 oy, .int .u64 ox, .int .i64 op, .int .i64 typ, .bool true]]) (by simp [results, Try.results9, go_sem, c0, c1, c2, c3, c4, c5, y0, y1, y2, y3, y4, y5]) rfl ⟨rfl, B9⟩
end Go.Proofs.Ytidnojjhchmmgaa
