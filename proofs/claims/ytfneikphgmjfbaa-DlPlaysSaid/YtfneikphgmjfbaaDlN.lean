/- Calls as they come in; a state in a box; the state behind calls; how often one is open: contracts. -/
import Derived.Test.YtfneikphgmjfbaaDlM
import Derived.Deep.RegionWith
namespace Go.Proofs.Ytfneikphgmjfbaa
set_option linter.unusedVariables false
set_option linter.unusedSimpArgs false
open Go.Joins Go.ChangeShapes Go.WideShapes Go.ChangeAt Go.RowKit Go.Deep

/-- a block that holds a state -/
def BoxS (W : World) (B : Nat) (u v : Value) : Prop := ∃ t, W.heap[B]? = some (.cells #[u, v] t (0, 0))
theorem BoxS.cells {W : World} {B : Nat} {u v : Value} (h : BoxS W B u v) : W.cell? ⟨B, 0, none⟩ = some u ∧ W.cell? ⟨B, 1, none⟩ = some v ∧ (∀ j, W.frozen? ⟨B, j, none⟩ = false) ∧ B < W.heap.size ∧ ∀ j, W.cell? ⟨B, j, none⟩ = #[u, v][j]? := by
  obtain ⟨t, h⟩ := h
  have hc : ∀ j, W.cell? ⟨B, j, none⟩ = #[u, v][j]? := fun j => by simp [World.cell?, h]
  exact ⟨hc 0, hc 1, fun j => by simp [World.frozen?, h], (Array.getElem?_eq_some_iff.1 h).1, hc⟩
theorem BoxS.below {W W' : World} {B : Nat} {u v : Value} (h : BoxS W B u v) (hb : Below W.heap.size W W') : BoxS W' B u v := by
  have hl := h.cells.2.2.2.1
  obtain ⟨t, h⟩ := h
  exact ⟨t, (hb.block B hl).trans h⟩
theorem BoxS.new (W : World) (u v : Value) (t : TypeId) : BoxS (W.alloc (.cells #[u, v] t)) W.heap.size u v := ⟨t, heap_alloc_new W _⟩
theorem BoxS.other {W : World} {B B' j : Nat} {u v x : Value} (h : BoxS W B u v) (hne : B ≠ B') : BoxS (W.setCell ⟨B', j, none⟩ x) B u v := by
  obtain ⟨t, h⟩ := h
  exact ⟨t, (Below.heap_setCell _ _ _ _ hne).trans h⟩
theorem BoxS.set0 {W : World} {B : Nat} {u v : Value} (h : BoxS W B u v) (x : Value) : BoxS (W.setCell ⟨B, 0, none⟩ x) B x v := by
  obtain ⟨t, h⟩ := h
  refine ⟨t, ?_⟩
  obtain ⟨hlt, hk⟩ := Array.getElem?_eq_some_iff.1 h
  show (W.heap.modify B _)[B]? = _
  rw [Array.getElem?_eq_getElem (by rw [Array.size_modify]; exact hlt), Array.getElem_modify_self, hk]
  rfl
theorem BoxS.set1 {W : World} {B : Nat} {u v : Value} (h : BoxS W B u v) (x : Value) : BoxS (W.setCell ⟨B, 1, none⟩ x) B u x := by
  obtain ⟨t, h⟩ := h
  refine ⟨t, ?_⟩
  obtain ⟨hlt, hk⟩ := Array.getElem?_eq_some_iff.1 h
  show (W.heap.modify B _)[B]? = _
  rw [Array.getElem?_eq_getElem (by rw [Array.size_modify]; exact hlt), Array.getElem_modify_self, hk]
  rfl
theorem rd_box {W : World} {B j n : Nat} {a a1 a2 : Option Addr} {n1 c1 n2 c2 : Nat} {z : List Int} {x : Value} (hb : BoxS W B (.slice a1 n1 c1) (.slice a2 n2 c2)) (h : Rd W a n (i64s z)) : Rd (W.setCell ⟨B, j, none⟩ x) a n (i64s z) := by
  refine ⟨h.1, fun hn => ?_⟩
  obtain ⟨b, off, e, hlt, hc⟩ := h.2 hn
  have hne : b ≠ B := by
    intro e2
    subst e2
    have h0 := hc 0 hn
    have hz : z.length = n := by rw [← i64s_length]; exact h.1
    rw [i64s_get z 0 (by omega)] at h0
    exact ne_box hb.cells.2.2.2.2 h0 (by simp) (by simp) rfl
  exact ⟨b, off, e, by simpa using hlt, fun k hk => (World.cell?_setCell_other _ _ _ _ (fun e2 => hne (by injection e2 with e3; exact e3.symm))).trans (hc k hk)⟩
theorem rd_box2 {W : World} {B n : Nat} {a a1 a2 a3 : Option Addr} {n1 c1 n2 c2 n3 c3 : Nat} {z : List Int} {y : Value} (hb : BoxS W B (.slice a1 n1 c1) (.slice a2 n2 c2)) (h : Rd W a n (i64s z)) : Rd ((W.setCell ⟨B, 0, none⟩ (.slice a3 n3 c3)).setCell ⟨B, 1, none⟩ y) a n (i64s z) :=
  rd_box (hb.set0 _) (rd_box hb h)
theorem RdSt.box2 {W : World} {B : Nat} {b1 b2 a1 a2 a3 : Option Addr} {n1 c1 n2 c2 n3 c3 : Nat} {s : St} {y : Value} (hb : BoxS W B (.slice a1 n1 c1) (.slice a2 n2 c2)) (h : RdSt W b1 b2 s) : RdSt ((W.setCell ⟨B, 0, none⟩ (.slice a3 n3 c3)).setCell ⟨B, 1, none⟩ y) b1 b2 s := ⟨rd_box2 hb h.1, rd_box2 hb h.2⟩
theorem txs_box {W : World} {B j n : Nat} {a a1 a2 : Option Addr} {n1 c1 n2 c2 : Nat} {z : List (List UInt8)} {x : Value} (hb : BoxS W B (.slice a1 n1 c1) (.slice a2 n2 c2)) (h : Rd W a n (txs z)) : Rd (W.setCell ⟨B, j, none⟩ x) a n (txs z) := by
  refine ⟨h.1, fun hn => ?_⟩
  obtain ⟨b, off, e, hlt, hc⟩ := h.2 hn
  have hne : b ≠ B := by
    intro e2
    subst e2
    have h0 := hc 0 hn
    have hz : z.length = n := by rw [← txs_length]; exact h.1
    rw [txs_get z 0 (by omega), hb.cells.2.2.2.2] at h0
    match off, h0 with
    | 0, h0 => simp at h0
    | 1, h0 => simp at h0
    | f + 2, h0 => simp at h0
  exact ⟨b, off, e, by simpa using hlt, fun k hk => (World.cell?_setCell_other _ _ _ _ (fun e2 => hne (by injection e2 with e3; exact e3.symm))).trans (hc k hk)⟩
/-- the slice of address a reads as these calls -/
def RdP (w : World) (a : Option Addr) (l : List (Bool × List UInt8)) : Prop :=
  0 < l.length → ∃ b off, a = some ⟨b, off, none⟩ ∧ ∀ k (h : k < l.length), w.cell? ⟨b, off + k * 2, none⟩ = some (.bool l[k].1) ∧ w.cell? ⟨b, off + k * 2 + 1, none⟩ = some (.string ⟨l[k].2.toArray⟩)
theorem RdP.below {w w' : World} {a : Option Addr} {l : List (Bool × List UInt8)} (h : RdP w a l) (hb : Below w.heap.size w w') : RdP w' a l := fun hn => by
  obtain ⟨b, off, e, hc⟩ := h hn
  exact ⟨b, off, e, fun k hk => ⟨(hb.cell (p := ⟨b, off + k * 2, none⟩) (heap_lt_of_cell (hc k hk).1)).trans (hc k hk).1, (hb.cell (p := ⟨b, off + k * 2 + 1, none⟩) (heap_lt_of_cell (hc k hk).2)).trans (hc k hk).2⟩⟩
theorem RdP.at_ {w : World} {a : Option Addr} {l : List (Bool × List UInt8)} (h : RdP w a l) {k : Nat} (hk : k < l.length) : ∃ b off, a = some ⟨b, off, none⟩ ∧ w.cell? ⟨b, off + k * 2, none⟩ = some (.bool l[k].1) ∧ w.cell? ⟨b, off + k * 2 + 1, none⟩ = some (.string ⟨l[k].2.toArray⟩) := by
  obtain ⟨b, off, e, hc⟩ := h (by omega)
  exact ⟨b, off, e, hc k hk⟩
set_option maxHeartbeats 1000000 in
theorem count_any (a1 a2 : Option Addr) (n1 c1 c2 : Nat) (op : List Nat) (k0 : Nat) (w : World) (h : Rd w a2 op.length (i64s (ordZ op))) (hn : op.length ≤ 100000) :
    Calls Try.prog 19 #[.agg #[.slice a1 n1 c1, .slice a2 op.length c2], .int .i64 (k0 : Int)] w fun e w' => e = .returned (.int .i64 ((op.count k0 : Nat) : Int)) ∧ Below w.heap.size w w' := by
  have HL := Lib.hid (h.alloc (.cells #[.slice a1 n1 c1, .slice a2 op.length c2] 28))
  obtain ⟨r, hr⟩ : ∃ r, op.count k0 = r := ⟨_, rfl⟩
  have HR := Lib.hid hr
  rw [hr]
  obtain ⟨n, hlen⟩ : ∃ n, op.length = n := ⟨_, rfl⟩
  rw [hlen] at hn HL ⊢
  have HN := Lib.hid hlen
  clear h hr hlen
  go_enter Try.func19, Try.ntmps19
  go_wp2_with fail
  go_loopw [5, 11] (fun m i wr => ∃ k q : Nat, k ≤ n ∧ i = .int .i64 k ∧ m = .int .i64 (q : Int) ∧ q ≤ k ∧ Hid (q = (op.take k).count k0) ∧ wr = w.alloc (.cells #[.slice a1 n1 c1, .slice a2 n c2] 28)) (fun _ i _ => n - (intOf i).toNat)
  case atStart => exact ⟨0, 0, by omega, rfl, rfl, by omega, Lib.hid (by simp), rfl⟩
  case round =>
    obtain ⟨k, q, hk, rfl, rfl, hq, HQ, rfl⟩ := hrel
    by_cases hlt : k < n
    · have hkl : k < op.length := by rw [HN.out]; exact hlt
      obtain ⟨b, o, rfl, -, hc⟩ := HL.out.at_ hlt
      rw [ordZ_get op k hkl] at hc
      have htk := List.take_succ_eq_append_getElem hkl
      obtain ⟨y, hy⟩ : ∃ y, op[k] = y := ⟨_, rfl⟩
      rw [hy] at hc htk
      have HTK := Lib.hid (show (op.take (k + 1)).count k0 = q + if y = k0 then 1 else 0 by rw [htk, List.count_append, ← HQ.out, List.count_singleton]; simp)
      clear htk hy
      by_cases hyk : y = k0
      · subst hyk
        have hself : ((y : Int) == (y : Int)) = true := by simp
        go_wp2_with fail
        go_roundw
        case rel => exact ⟨k + 1, q + 1, by omega, by go_num, by go_num, by omega, Lib.hid (by rw [HTK.out, if_pos rfl]), trivial⟩
        case measure => simp [intOf]; omega
      · have hself : ((y : Int) == (k0 : Int)) = false := beq_eq_false_iff_ne.2 (by omega)
        go_wp2_with fail
        go_roundw
        case rel => exact ⟨k + 1, q, by omega, by go_num, rfl, by omega, Lib.hid (by rw [HTK.out, if_neg hyk]; rfl), trivial⟩
        case measure => simp [intOf]; omega
    · have hq2 : q = r := by rw [← HR.out, HQ.out, List.take_of_length_le (by rw [HN.out]; omega)]
      subst hq2
      clear HQ HR
      go_wp2_with fail
      go_ret
      exact ⟨rfl, bAlloc (Below.refl _ _) _⟩
/-- what calls leave -/
def MadePost (w : World) (l : List Obj) (root : List UInt8) (n : Nat) (e : Ending) (w' : World) : Prop :=
  ∃ a1 c1 a2 c2 s ok, e = .returned (.tuple #[.agg #[.slice a1 s.ld.length c1, .slice a2 s.op.length c2], .bool ok]) ∧ (if ok = true then Good l root s ∧ s.op.length ≤ n + 1 else s = ⟨[], []⟩) ∧ RdSt w' a1 a2 s ∧ Below w.heap.size w w'
theorem made_of {w w' : World} {l : List Obj} {root : List UInt8} {n n1 n2 c1 c2 : Nat} {a1 a2 : Option Addr} {ok : Bool} (s : St) (h : if ok = true then Good l root s ∧ s.op.length ≤ n + 1 else s = ⟨[], []⟩) (h1 : s.ld.length = n1) (h2 : s.op.length = n2) (hr : RdSt w' a1 a2 s) (hb : Below w.heap.size w w') :
    MadePost w l root n (.returned (.tuple #[.agg #[.slice a1 n1 c1, .slice a2 n2 c2], .bool ok])) w' := by
  subst h1; subst h2
  exact ⟨a1, c1, a2, c2, s, ok, rfl, h, hr, hb⟩
/-- between two calls -/
structure MadeAt (w wr : World) (B : Nat) (l : List Obj) (root : List UInt8) (k : Nat) (a1 : Option Addr) (n1 c1 : Nat) (a2 : Option Addr) (n2 c2 : Nat) (s : St) : Prop where
  bx : BoxS wr B (.slice a1 n1 c1) (.slice a2 n2 c2)
  bh : BoxS wr w.heap.size (.slice none 0 0) (.slice none 0 0)
  hB : w.heap.size < B
  n1 : s.ld.length = n1
  n2 : s.op.length = n2
  rd : RdSt wr a1 a2 s
  good : Good l root s
  len : s.op.length ≤ k + 1
  bel : Below w.heap.size w wr
theorem MadeAt.next {w wr w' : World} {B : Nat} {l : List Obj} {root : List UInt8} {k : Nat} {a1 a2 : Option Addr} {n1 c1 n2 c2 : Nat} {s s' : St} {b1 b2 : Option Addr} {m1 d1 m2 d2 : Nat} (h : MadeAt w wr B l root k a1 n1 c1 a2 n2 c2 s) (hb : Below wr.heap.size wr w') (h1 : s'.ld.length = m1) (h2 : s'.op.length = m2) (hr : RdSt w' b1 b2 s') (hg : Good l root s') (hl : s'.op.length ≤ s.op.length + 1) :
    MadeAt w ((w'.setCell ⟨B, 0, none⟩ (.slice b1 m1 d1)).setCell ⟨B, 1, none⟩ (.slice b2 m2 d2)) B l root (k + 1) b1 m1 d1 b2 m2 d2 s' := by
  have hB := h.hB
  have hlen := h.len
  exact ⟨((h.bx.below hb).set0 _).set1 _, ((h.bh.below hb).other (by omega)).other (by omega), hB, h1, h2, hr.box2 (h.bx.below hb), hg, by omega, ((bTrans h.bel hb).setCell (by show w.heap.size ≤ B; omega) _).setCell (by show w.heap.size ≤ B; omega) _⟩
set_option maxRecDepth 100000 in
set_option maxHeartbeats 4000000 in
theorem made_any (a : Option Addr) (l : List Obj) (c : Nat) (root : List UInt8) (b : Option Addr) (ops : List (Bool × List UInt8)) (d : Nat) (w : World) (hl : RdO w a l) (hm : l.length ≤ 100) (hnm : Named l) (hroot : root.length ≤ maxLen) (hp : RdP w b ops) (hpn : ops.length ≤ 90) (hpm : ∀ o ∈ ops, o.2.length ≤ maxLen) :
    Calls Try.prog 21 #[.slice a l.length c, .string ⟨root.toArray⟩, .slice b ops.length d] w (MadePost w l root ops.length) := by
  have HL := Lib.hid hl
  have HP := Lib.hid hp
  have HPM := Lib.hid hpm
  have HBG := Lib.hid (fun W (hW : RdO W a l) => begun_any a l c root W hW hm hnm hroot)
  have HOP := Lib.hid (fun a1 a2 c1 c2 (s : St) name W (hW : RdO W a l) (hs : RdSt W a1 a2 s) (hn1 : s.ld.length ≤ 1000) (hn2 : s.op.length ≤ 100) (hname : name.length ≤ maxLen) => open_any a l c a1 a2 c1 c2 s name W hW hm hnm hs hn1 (by omega) hname)
  have HCL := Lib.hid (fun a1 a2 c1 c2 (s : St) name W (hW : RdO W a l) (hs : RdSt W a1 a2 s) (hn1 : s.ld.length ≤ 1000) (hn2 : s.op.length ≤ 100) (hop : ∀ k ∈ s.op, k < l.length) => close_any a l c a1 a2 c1 c2 s name W hW hm hnm hs hn1 hn2 hop)
  clear hl hp hpm hnm
  obtain ⟨n, hn⟩ : ∃ n, ops.length = n := ⟨_, rfl⟩
  obtain ⟨m, hlm⟩ : ∃ m, l.length = m := ⟨_, rfl⟩
  rw [hn] at hpn ⊢
  rw [hlm] at hm HBG HOP HCL ⊢
  have HN := Lib.hid hn
  have HLM := Lib.hid hlm
  clear hn hlm
  go_enter Try.func21, Try.ntmps21
  go_wp2_with fail
  refine (HBG.out _ (HL.out.below (bAlloc (Below.refl _ _) _))).mono ?_; rintro e w1 ⟨a1, c1, a2, c2, s, bb, x, rfl, hO, hrd, hb1⟩
  have hbh := (BoxS.new w (.slice none 0 0) (.slice none 0 0) 28).below hb1
  have hz1 : w.heap.size < w1.heap.size := hbh.cells.2.2.2.1
  have hb1' := bTrans (bAlloc (Below.refl w.heap.size w) _) hb1
  obtain ⟨n1, hn1⟩ : ∃ n, s.ld.length = n := ⟨_, rfl⟩
  obtain ⟨n2, hn2⟩ : ∃ n, s.op.length = n := ⟨_, rfl⟩
  rcases hO with ⟨-, rfl, rfl, rfl⟩ | ⟨p, b0, hB, rfl, rfl, rfl⟩
  · cases hn1
    cases hn2
    obtain ⟨x1, x2, x3, -, -⟩ := hbh.cells
    have x4 := x3 0
    have x5 := x3 1
    have HRD := Lib.hid hrd
    have HBH := Lib.hid hbh
    have HB1 := Lib.hid hb1'
    clear hrd hb1 hb1' hbh x3
    go_wp2_with fail
    have kc := set2B (.slice a1 0 c1) (.slice a2 0 c2) x1 x2 (.cells #[.slice a1 0 c1, .slice a2 0 c2] 28)
    refine bodyPost_ret (v := .tuple #[.agg #[.slice a1 0 c1, .slice a2 0 c2], .bool false]) ?_ rfl (made_of ⟨[], []⟩ (by rw [if_neg (by simp)]) rfl rfl ⟨Rd.nil _ _, Rd.nil _ _⟩ (bAlloc ((HB1.out.setCell (by simp) _).setCell (by simp) _) _))
    simp [results, Try.results21, go_sem, kc.1, kc.2]
  · have hbf : b0.filter (fun k => !([] : List Nat).contains k) = b0 := filter_all fun k _ => by simp
    simp only [hbf, List.nil_append] at hrd hn1 hn2 ⊢
    have hG := Good.begun hB
    have HM0 := Lib.hid (show MadeAt w (w1.alloc (.cells #[.slice a1 n1 c1, .slice a2 n2 c2] 28)) w1.heap.size l root 0 a1 n1 c1 a2 n2 c2 ⟨b0, [p]⟩ from ⟨BoxS.new _ _ _ _, hbh.below (bAlloc (Below.refl _ _) _), hz1, hn1, hn2, hrd.below (bAlloc (Below.refl _ _) _), hG, by simp, bAlloc hb1' _⟩)
    rw [hn1, hn2]
    clear hbf hrd hb1 hb1' hbh hB hn1 hn2 hG
    go_wp2_with fail
    go_loopw [10] (fun i wr => ∃ (k : Nat) (a1 : Option Addr) (n1 c1 : Nat) (a2 : Option Addr) (n2 c2 : Nat) (s : St), i = .int .i64 k ∧ k ≤ n ∧ Hid (MadeAt w wr w1.heap.size l root k a1 n1 c1 a2 n2 c2 s)) (fun i _ => n - (intOf i).toNat)
    case atStart => exact ⟨0, a1, n1, c1, a2, n2, c2, ⟨b0, [p]⟩, rfl, by omega, HM0⟩
    case round =>
      obtain ⟨k, a1, n1, c1, a2, n2, c2, s, rfl, hk, HM⟩ := hrel
      obtain ⟨y1, y2, y3, y4, -⟩ := HM.out.bx.cells
      have y5 := y3 0
      have y6 := y3 1
      clear y3 HM0
      by_cases hlt : k < n
      · have hkl : k < ops.length := by rw [HN.out]; exact hlt
        obtain ⟨g, off, rfl, hc1, hc2⟩ := (HP.out.below HM.out.bel).at_ hkl
        have hnml := HPM.out _ (List.getElem_mem hkl)
        obtain ⟨o, ho⟩ : ∃ o, ops[k] = o := ⟨_, rfl⟩
        rw [ho] at hc1 hc2 hnml
        obtain ⟨opn, nm⟩ := o
        simp only [] at hc1 hc2 hnml
        have hgl := HM.out.good.le
        rw [HM.out.n1, HLM.out] at hgl
        have hgo := HM.out.len
        rw [HM.out.n2] at hgo
        have kk0 : (0 : Int) ≤ (k : Int) := by omega
        have kk1 : (k : Int) < (n : Int) := by omega
        have hgz := heap_lt_of_cell hc1
        have HO1 := fun W (hW : Below wr.heap.size wr W) => HOP.out a1 a2 c1 c2 s nm W ((HL.out.below HM.out.bel).below hW) (HM.out.rd.below hW) (by rw [HM.out.n1]; omega) (by rw [HM.out.n2]; omega) hnml
        have HC1 := fun W (hW : Below wr.heap.size wr W) => HCL.out a1 a2 c1 c2 s nm W ((HL.out.below HM.out.bel).below hW) (HM.out.rd.below hW) (by rw [HM.out.n1]; omega) (by rw [HM.out.n2]; omega) (fun q hq => by rw [← HLM.out]; exact HM.out.good.opl q hq)
        rw [HM.out.n1, HM.out.n2] at HO1 HC1
        have HO1 := Lib.hid HO1
        have HC1 := Lib.hid HC1
        cases opn with
        | true =>
          go_wp2_with fail
          go_region_with (go_at_call 14; (with_reducible refine (HO1.out _ (Below.drew (Below.refl wr.heap.size wr))).mono ?_); rintro e w' ⟨b1, d1, b2, d2, b3, d3, s', bb, x, rfl, hR, hrd', -, hb'⟩; have HBW := Lib.hid (bTrans (Below.drew (Below.refl wr.heap.size wr)) hb'); have HRR := Lib.hid hR; have HRD' := Lib.hid hrd'; obtain ⟨z1, z2, z3, z4, -⟩ := (HM.out.bx.below HBW.out).cells; have z5 := z3 0; have z6 := z3 1; clear hR hrd' hb' z3)
          all_goals
            go_wp2_with fail
            go_roundw
            case rel => exact ⟨k + 1, b1, s'.ld.length, d1, b2, s'.op.length, d2, s', by go_num, by omega, Lib.hid (HM.out.next HBW.out rfl rfl HRD'.out (HM.out.good.opened HRR.out) HRR.out.len)⟩
            case measure => simp [intOf]; omega
        | false =>
          go_wp2_with fail
          go_region_with (go_at_call 15; (with_reducible refine (HC1.out _ (Below.drew (Below.refl wr.heap.size wr))).mono ?_); rintro e w' ⟨b1, d1, b2, d2, b3, d3, s', bb, x, rfl, hR, hrd', -, hb'⟩; have HBW := Lib.hid (bTrans (Below.drew (Below.refl wr.heap.size wr)) hb'); have HRR := Lib.hid hR; have HRD' := Lib.hid hrd'; obtain ⟨z1, z2, z3, z4, -⟩ := (HM.out.bx.below HBW.out).cells; have z5 := z3 0; have z6 := z3 1; clear hR hrd' hb' z3)
          all_goals
            go_wp2_with fail
            go_roundw
            case rel => exact ⟨k + 1, b1, s'.ld.length, d1, b2, s'.op.length, d2, s', by go_num, by omega, Lib.hid (HM.out.next HBW.out rfl rfl HRD'.out (HM.out.good.closed HRR.out) HRR.out.len)⟩
            case measure => simp [intOf]; omega
      · obtain ⟨v1, v2, v3, v4, -⟩ := HM.out.bh.cells
        have v5 := v3 0
        have v6 := v3 1
        clear v3
        go_wp2_with fail
        have kc := set2 (.slice a1 n1 c1) (.slice a2 n2 c2) v1 v2
        have hkn : k = n := by omega
        refine bodyPost_ret (v := .tuple #[.agg #[.slice a1 n1 c1, .slice a2 n2 c2], .bool true]) ?_ rfl (made_of s (by rw [if_pos rfl]; exact ⟨HM.out.good, by have := HM.out.len; omega⟩) HM.out.n1 HM.out.n2 (HM.out.rd.box2 HM.out.bh) ((HM.out.bel.setCell (by simp) _).setCell (by simp) _))
        simp [results, Try.results21, go_sem, kc.1, kc.2]
end Go.Proofs.Ytfneikphgmjfbaa
