/- A scope, of which nothing was asked: contract of open. -/
import Derived.Test.YthammjpadbbflaaLkH
namespace Go.Proofs.Ythammjpadbbflaa
set_option linter.unusedVariables false
set_option linter.unusedSimpArgs false
open Go.Joins Go.ChangeShapes Go.WideShapes Go.ChangeAt Go.RowKit Go.Deep Go.Shelf

theorem infoPtr : (Try.prog.info? 66).map (fun i => (i.zero, i.size, i.bytes)) = some (some (.pointer none), 1, 8) := by kernel_rfl
theorem PlaceD.raise {base lo lo' : Nat} {P P' : Nat → Prop} {W : World} {B : Nat} {obj : Int} {l : List Sym} (h : PlaceD base lo P W B obj l 0) (hl : lo ≤ lo') : PlaceD base lo' P' W B obj l 0 := by
  obtain ⟨h1, h2, sa, sc, tb, h3, h4, h5, h6, h7⟩ := h
  refine ⟨h1, by omega, sa, sc, tb, h3, h4, h5, h6, Or.inl ?_⟩
  rcases h7 with h | ⟨h, -⟩
  · exact h
  · cases h
/-- where a walk of open stands -/
structure OpenI (base : Nat) (W : World) (v : Value) (l : List Ob) (sc : List Nat) (k : Nat) (Bs : List Nat) : Prop where
  len : Bs.length = k
  nd : Bs.Nodup
  own : W.ownsRow base 66 1 v k (ptrV Bs)
  nil : k = 0 → v = .slice none 0 0
  pl : ∀ j (h : j < k) (hs : j < sc.length), PlaceD base W.heap.size (fun _ => False) W (Bs[j]'(by omega)) (sc[j] : Int) (symsAt l sc[j]) 0
  lt : ∀ B ∈ Bs, B < W.heap.size
theorem OpenI.start (W : World) (l : List Ob) (sc : List Nat) (base : Nat) : OpenI base W (.slice none 0 0) l sc 0 [] :=
  ⟨rfl, List.nodup_nil, World.ownsRow_nil _ _ _ _, fun _ => rfl, fun j h => by omega, by simp⟩
theorem OpenI.far {base k : Nat} {W : World} {v : Value} {l : List Ob} {sc Bs : List Nat} (h : OpenI base W v l sc k Bs) (hk : k ≤ sc.length) (j : Nat) (hj : j < k) : v.ownBlock ≠ some (Bs[j]'(by have := h.len; omega)) := fun e => by
  have hlen := h.len
  rcases h.own.2 with ⟨rfl, h0⟩ | ⟨g, cap, cur, rfl, -⟩
  · omega
  · have hc := h.own.cellAt 0 (by omega)
    have e2 : g = Bs[j]'(by omega) := by simpa [Value.ownBlock] using e
    obtain ⟨-, -, sa, s2, tb, hb, -⟩ := h.pl j hj (by omega)
    rw [← e2] at hb
    have hy := hb.cell 0
    have hx := ptrV_get Bs 0 (by omega)
    have hz := (hx.symm.trans hc.symm).trans hy
    simp at hz
theorem OpenI.fin {base k : Nat} {W : World} {a : Option Addr} {c : Nat} {l : List Ob} {sc Bs : List Nat} (h : OpenI base W (.slice a k c) l sc k Bs) (hk : sc.length = k) : PlsAt base W.heap.size W a l sc Bs := by
  subst hk
  exact ⟨h.len, h.nd, Rd.of_own h.own, fun j hj => ⟨0, (h.pl j hj hj).raise (Nat.le_refl _)⟩, Nat.le_refl _⟩
theorem OpenI.add {base k : Nat} {W w5 : World} {v v' : Value} {l : List Ob} {sc Bs : List Nat} {cs : Array Value} {t1 t2 : TypeId} (h : OpenI base W v l sc k Bs) (hk : k < sc.length) (hbase : base ≤ W.heap.size)
    (hs : ∃ sa s2, cs = #[.int .i64 (sc[k] : Int), .slice sa (symsAt l sc[k]).length s2, .int .u32 0, .int .i32 0, .int .u32 0, .slice none 0 0] ∧ RdS W sa (symsAt l sc[k]) ∧ (symsAt l sc[k]).length ≤ s2 ∧ ∀ b off, 0 < (symsAt l sc[k]).length → sa = some ⟨b, off, none⟩ → b < base)
    (hg : ((W.alloc (.cells cs t1)).alloc (.cells #[.pointer (some ⟨W.heap.size, 0, none⟩)] t2)).grownBy w5 v.ownBlock) (ho : w5.ownsRow base 66 1 v' (k + 1) (ptrV Bs ++ [.pointer (some ⟨W.heap.size, 0, none⟩)])) :
    OpenI base w5 v' l sc (k + 1) (Bs ++ [W.heap.size]) := by
  have hlen := h.len
  have hz : ((W.alloc (.cells cs t1)).alloc (.cells #[.pointer (some ⟨W.heap.size, 0, none⟩)] t2)).heap.size = W.heap.size + 2 := by rw [size_alloc, size_alloc]
  have hz5 := hg.size
  rw [hz] at hz5
  have hfar : v.ownBlock ≠ some W.heap.size := fun e => by have := (h.own.lt _ e).2; omega
  have hb2 : Below W.heap.size W ((W.alloc (.cells cs t1)).alloc (.cells #[.pointer (some ⟨W.heap.size, 0, none⟩)] t2)) := bAlloc (bAlloc (Below.refl _ _) _) _
  refine ⟨by simp [hlen], ?_, by simpa [ptrV] using ho, fun e => by omega, fun j hj hjs => ?_, fun B hB => ?_⟩
  · rw [List.nodup_append]
    exact ⟨h.nd, by simp, fun a ha b hb e => by simp at hb; subst hb; have := h.lt a ha; omega⟩
  · by_cases hjk : j < k
    · have hp := h.pl j hjk hjs
      have hne := h.far (by omega) j hjk
      have hbj : (Bs ++ [W.heap.size])[j]'(by simp; omega) = Bs[j]'(by omega) := List.getElem_append_left _
      rw [hbj]
      have hk2 : KP W.heap.size (fun b => v.ownBlock = some b) W w5 := (kp_of_below hb2 (Nat.le_refl _)).grown hg (by omega) (fun r e => Or.inr e)
      have hp2 := hp.kp hk2 (Nat.le_refl _) hne (fun b hb q => by have := (h.own.lt b q).1; omega) (fun b hb => hb.elim)
      exact hp2.raise (by omega)
    · obtain rfl : j = k := by omega
      have hbj : (Bs ++ [W.heap.size])[j]'(by simp; omega) = W.heap.size := by rw [List.getElem_append_right (by omega)]; simp
      rw [hbj]
      obtain ⟨sa, s2, rfl, q1, q2, q3⟩ := hs
      have hbx := ((BoxN.new W #[.int .i64 (sc[j] : Int), .slice sa (symsAt l sc[j]).length s2, .int .u32 0, .int .i32 0, .int .u32 0, .slice none 0 0] t1).below (bAlloc (Below.refl _ _) (.cells #[.pointer (some ⟨W.heap.size, 0, none⟩)] t2)) (by simp)).grown hg hfar
      have hk2 : KP W.heap.size (fun b => v.ownBlock = some b) W w5 := (kp_of_below hb2 (Nat.le_refl _)).grown hg (by omega) (fun r e => Or.inr e)
      refine ⟨hbase, by omega, sa, s2, _, hbx, hk2.rdS q1 (fun b off h0 e => ?_), q2, q3, Or.inl ⟨rfl, rfl⟩⟩
      have := q3 b off h0 e
      exact ⟨by omega, fun q => by have := (h.own.lt b q).1; omega⟩
  · rw [List.mem_append] at hB
    rcases hB with hB | hB
    · have := h.lt B hB; omega
    · simp at hB; omega
set_option maxHeartbeats 1000000 in
set_option maxRecDepth 100000 in
theorem open_any (a b : Option Addr) (c d : Nat) (l : List Ob) (sc : List Nat) (w : World) (hl : RdL w a l) (hs : Rd w b sc.length (ordV sc)) (hsc : ∀ k ∈ sc, k < l.length) (hn : sc.length ≤ 100) (hm : l.length ≤ 100) :
    Calls Try.prog 30 #[.slice a l.length c, .slice b sc.length d] w fun e w' => ∃ a' c' Bs, e = .returned (.slice a' sc.length c') ∧ PlsAt w.heap.size w'.heap.size w' a' l sc Bs ∧ Below w.heap.size w w' := by
  have HL := Lib.hid hl
  have HS := Lib.hid hs
  have HSC := Lib.hid hsc
  obtain ⟨i0, hi1, hi2, hi3, hi4⟩ := info_parts infoPtr
  have HI := Lib.hid (And.intro hi1 (And.intro hi2 (And.intro hi3 hi4)))
  clear hl hs hsc hi1 hi2 hi3 hi4
  obtain ⟨n, hn1⟩ : ∃ n, sc.length = n := ⟨_, rfl⟩
  obtain ⟨m, hm1⟩ : ∃ m, l.length = m := ⟨_, rfl⟩
  have HN := Lib.hid hn1
  have HM := Lib.hid hm1
  rw [hn1] at HS hn ⊢
  rw [hm1] at hm ⊢
  clear hn1 hm1
  go_enter Try.func30, Try.ntmps30
  go_wp2_with fail
  go_loopw [5, 10] (fun v i wr => ∃ (k : Nat) (a5 : Option Addr) (c5 : Nat) (Bs : List Nat), v = .slice a5 k c5 ∧ i = .int .i64 k ∧ k ≤ n ∧ Hid (OpenI w.heap.size wr (.slice a5 k c5) l sc k Bs) ∧ Hid (Below w.heap.size w wr)) (fun _ i _ => n - (intOf i).toNat)
  case atStart => exact ⟨0, none, 0, [], rfl, rfl, by omega, Lib.hid (OpenI.start _ _ _ _), Lib.hid (Below.refl _ _)⟩
  case round =>
    obtain ⟨k, a5, c5, Bs, rfl, rfl, hk, HO, HB⟩ := hrel
    by_cases hlt : k < n
    · have hkl : k < sc.length := by rw [HN.out]; exact hlt
      obtain ⟨g, off, hge, -, hc⟩ := (HS.out.below HB.out).at_ hlt
      subst hge
      rw [ordV_get sc k hkl] at hc
      have hmem := List.getElem_mem hkl
      obtain ⟨o, ho⟩ : ∃ o, sc[k] = o := ⟨_, rfl⟩
      rw [ho] at hc hmem
      have hol : o < l.length := HSC.out _ hmem
      obtain ⟨gl, fl, hgl, -, hob⟩ := HL.out.at_ hol
      subst hgl
      have hsy := symsAt_eq hol
      obtain ⟨sa, s2, ra, rc, x1, x2, x3, x4, x5⟩ := hob
      have x1 := (HB.out.cell (heap_lt_of_cell x1)).trans x1
      rw [← hsy] at x1 x3 x4
      have HX := Lib.hid (show RdS wr sa (symsAt l o) ∧ (symsAt l o).length ≤ s2 ∧ ∀ b off, 0 < (symsAt l o).length → sa = some ⟨b, off, none⟩ → b < w.heap.size from ⟨x3.below HB.out, x4, fun b off h0 e => by
        obtain ⟨b', off', e', hl, -⟩ := x3 h0
        rw [e] at e'; cases e'; exact hl⟩)
      have HO1 := Lib.hid ho
      have hbs := HB.out.size
      have hom : o < m := by rw [← HM.out]; exact hol
      have kk0 : (0 : Int) ≤ (k : Int) := by omega
      have kk1 : (k : Int) < (n : Int) := by omega
      have oo0 : (0 : Int) ≤ (o : Int) := by omega
      have oo1 : (o : Int) < (m : Int) := by omega
      have od0 : decide ((0 : Int) ≤ (o : Int)) = true := decide_eq_true oo0
      have od1 : decide ((o : Int) < (m : Int)) = true := decide_eq_true oo1
      obtain ⟨q, hq⟩ : ∃ q, (symsAt l o).length = q := ⟨_, rfl⟩
      rw [hq] at x1
      have HQ := Lib.hid hq
      clear hsy x2 x3 x4 x5 hmem hq ho
      obtain ⟨cs, hcs⟩ : ∃ cs : Array Value, #[.int .i64 (o : Int), .slice sa q s2, .int .u32 0, .int .i32 0, .int .u32 0, .slice none 0 0] = cs := ⟨_, rfl⟩
      have hcn := cell_one_new (wr.alloc (.cells #[.int .i64 (o : Int), .slice sa q s2, .int .u32 0, .int .i32 0, .int .u32 0, .slice none 0 0] 81)) (.pointer (some ⟨wr.heap.size, 0, none⟩)) 66
      rw [size_alloc] at hcn
      have HCN := Lib.hid hcn
      clear hcn hcs
      go_wp2_with (at_builtin; refine wpList_append_own_at _ rfl _ _ 61 rfl w.heap.size 66 i0 (.pointer none) 1 8 Try.underlying61 HI.out.1 HI.out.2.1 HI.out.2.2.1 HI.out.2.2.2 rfl (by decide) (.slice a5 k c5) k (ptrV Bs) rfl ((HO.out.own.alloc _).alloc _) ⟨wr.heap.size + 1, 0, none⟩ 1 1 [.pointer (some ⟨wr.heap.size, 0, none⟩)] rfl rfl HCN.out (fun x hx => by simp at hx; subst hx; rfl) (by unfold maxLen; omega) (by omega) (by simp; omega) ?_; intro v' w5 hown' hgrow3 hnil3 hat3; obtain ⟨a', c', rfl, -⟩ := own_slice hown'; have HOW := Lib.hid hown'; have HGR := Lib.hid hgrow3; clear hown' hgrow3 hnil3 hat3)
      go_roundw
      case rel =>
        refine ⟨k + 1, a', c', Bs ++ [wr.heap.size], rfl, by go_num, by omega, Lib.hid (HO.out.add hkl hbs ?_ HGR.out HOW.out), Lib.hid ?_⟩
        · rw [HO1.out, HQ.out.symm] at *
          exact ⟨sa, s2, rfl, HX.out⟩
        · exact ((bAlloc (bAlloc HB.out _) _).grown HGR.out (by simp; omega) (fun g hg => (HO.out.own.lt g hg).1))
      case measure => simp [intOf]; omega
    · have hkn : k = n := by omega
      subst hkn
      go_wp2_with fail
      go_ret
      exact ⟨a5, c5, Bs, rfl, HO.out.fin HN.out, HB.out⟩
end Go.Proofs.Ythammjpadbbflaa
