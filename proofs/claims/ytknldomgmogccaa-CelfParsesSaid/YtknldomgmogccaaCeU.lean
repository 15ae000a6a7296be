/- The chapter's examples hold. -/
import Derived.Test.YtknldomgmogccaaCeQ
namespace Go.Proofs.Ytknldomgmogccaa
set_option linter.unusedVariables false
set_option linter.unusedSimpArgs false
open Go.Joins Go.ChangeShapes Go.WideShapes Go.ChangeAt Go.RowKit Go.Deep

def emptyL : List UInt8 := [67, 69, 76, 70, 1, 1, 97, 0, 0, 0, 0, 0, 0, 0, 0, 0, 0, 0, 0]
theorem em_0 : (parseF emptyL).2 = 0 ∧ (parseF emptyL).1.name = [97] ∧ (parseF emptyL).1.needs = [] := by decide +kernel
theorem em_1 : (parseF (emptyL ++ [0])).2 = 102 := by decide +kernel
theorem em_2 : (parseF (emptyL.take 18)).2 = 101 := by decide +kernel
theorem em_3 : (parseF []).2 = 100 := by decide +kernel
theorem em_4 : (parseF [67, 69, 76, 70, 2]).2 = 100 := by decide +kernel
theorem lit_own (w : World) (l : List UInt8) (n : Nat) (hn : l.length = n) (hm : n ≤ 1000) (cs : Array Value) (hcs : cs = (u8v l).toArray) : (w.alloc (.cells cs 5)).ownsRow w.heap.size 5 1 (.slice (some ⟨w.heap.size, 0, none⟩) n n) n (u8v l) := by
  subst hcs
  have h := World.ownsRow_lit (base := w.heap.size) (e := 5) (size := 1) w (u8v l).toArray n (Nat.le_refl _) (by unfold maxLen; omega) (by simp [u8v, hn])
  simpa using h
theorem empty_any (w : World) :
    Calls Try.prog 13 #[] w fun e w' => e = .returned (.slice (some ⟨w.heap.size, 0, none⟩) 19 19) ∧ Below w.heap.size w w' ∧ w'.ownsRow w.heap.size 5 1 (.slice (some ⟨w.heap.size, 0, none⟩) 19 19) 19 (u8v emptyL) := by
  go_enter Try.func13, Try.ntmps13
  go_wp2_with fail
  go_ret
  exact ⟨rfl, bAlloc (Below.refl _ _) _, lit_own w emptyL 19 rfl (by omega) _ rfl⟩
theorem rd_own1 {w : World} {B n c : Nat} {a : Option Addr} {l : List UInt8} (h : w.ownsRow B 5 1 (.slice a n c) n (u8v l)) : Rd w a n (u8v l) := Rd.of_own h
def seg1 : Seg := ⟨256, 10, 0, [], none, 0⟩
theorem at_lit (w : World) (n : Int) (hn : u64B n) (q : Int) (hq : atF [seg1] 256 n = q) :
    Calls Try.prog 11 #[.agg #[.string ⟨#[]⟩, .slice none 0 0, .slice (some ⟨w.heap.size, 0, none⟩) 1 1, .slice none 0 0, .slice none 0 0, .slice none 0 0, .slice none 0 0], .int .u64 256, .int .u64 n] (w.alloc (.cells #[.int .u64 256, .int .u64 10, .int .i64 0, .slice none 0 0] 39)) fun e w' => e = .returned (.int .i64 q) ∧ Below (w.alloc (.cells #[.int .u64 256, .int .u64 10, .int .i64 0, .slice none 0 0] 39)).heap.size (w.alloc (.cells #[.int .u64 256, .int .u64 10, .int .i64 0, .slice none 0 0] 39)) w' := by
  rw [← hq]
  exact at_any _ _ _ _ _ _ (some ⟨w.heap.size, 0, none⟩) 1 1 [seg1] 256 n _ rfl (Rd.lit w #[.int .u64 256, .int .u64 10, .int .i64 0, .slice none 0 0] 39 (by show 4 ≤ maxLen; decide)) (by decide) (by simp [seg1, u64B]) (by simp [u64B]) hn
theorem parse_any' (a : Option Addr) (n c : Nat) (b : List UInt8) (W : World) (hn : b.length = n) (hb : Rd W a n (u8v b)) (hc : n ≤ c) (hl : n ≤ 100000) :
    Calls Try.prog 8 #[.slice a n c] W fun e W' => ∃ o : Ob, e = .returned (.tuple #[.agg #[.string ⟨o.name.toArray⟩, .slice o.na o.needs.length o.nc, .slice o.ga o.segs.length o.gc, .slice o.sa o.syms.length o.sc, .slice o.ra o.rels.length o.rc, .slice o.ia o.init.length o.ic, .slice o.fa o.fini.length o.fc], .int .i64 (parseF b).2]) ∧ Below W.heap.size W W' ∧ RdOb W' o ∧ FitOb o ∧ coreO o = (parseF b).1 ∧ o.needs.length ≤ o.nc := by
  subst hn
  exact parse_any a c b W hb hc hl
theorem grownB {w w1 w2 : World} {row : Option Nat} (h : Below w.heap.size w w1) (hg : w1.grownBy w2 row) (hr : ∀ q, row = some q → w.heap.size ≤ q) : Below w.heap.size w w2 :=
  h.trans ⟨hg.os, hg.tape, hg.output, hg.size, fun k hk => hg.block k (Nat.lt_of_lt_of_le hk h.size) (fun e => by have := hr k e.symm; omega)⟩
theorem rd_take8 {w : World} {a : Option Addr} {n : Nat} {l : List UInt8} (h : Rd w a n (u8v l)) (k : Nat) (hk : k ≤ n) : Rd w a k (u8v (l.take k)) := by
  have hl : l.length = n := by rw [← u8v_len]; exact h.1
  refine ⟨by rw [u8v_len, List.length_take]; omega, fun h0 => ?_⟩
  obtain ⟨b, o, e, hl2, hc⟩ := h.2 (by omega)
  refine ⟨b, o, e, hl2, fun j hj => ?_⟩
  rw [hc j (by omega)]
  simp [u8v, List.getElem?_take, hj]
theorem own_cap {w : World} {B k n c : Nat} {e : TypeId} {a : Option Addr} {xs : List Value} (h : w.ownsRow B e k (.slice a n c) n xs) : n ≤ c := by
  rcases h.2 with ⟨e, h0⟩ | ⟨g, cap, cur, e, _, _, h1, _⟩
  · omega
  · cases e; exact h1
/-- two cells of a box, and that it is there -/
def Two (B : Nat) (u v : Value) (W : World) : Prop := W.cell? ⟨B, 0, none⟩ = some u ∧ W.cell? ⟨B, 1, none⟩ = some v
theorem Two.below {B : Nat} {u v : Value} {W W' : World} (h : Two B u v W) (hb : Below W.heap.size W W') : Two B u v W' := by
  have hl : B < W.heap.size := heap_lt_of_cell h.1
  exact ⟨(hb.cell (p := ⟨B, 0, none⟩) hl).trans h.1, (hb.cell (p := ⟨B, 1, none⟩) hl).trans h.2⟩
set_option maxHeartbeats 2000000 in
set_option maxRecDepth 100000 in
theorem awake_any (w : World) :
    Calls Try.prog 7 #[] w fun e w' => e = .returned (.bool true) ∧ Below w.heap.size w w' := by
  go_enter Try.func7, Try.ntmps7
  go_wp2_with fail
  refine (empty_any _).mono ?_; rintro e w1 ⟨rfl, hb1, hown⟩
  have HB := Lib.hid hb1
  have HP := Lib.hid (parse_any' _ 19 19 emptyL w1 rfl (rd_own1 hown) (by omega) (by omega))
  rw [em_0.1] at HP
  clear hb1 hown
  go_wp2_with fail
  refine HP.out.mono ?_; rintro e w2 ⟨o1, rfl, hb, -, -, hco, -⟩
  have hnm : o1.name = [97] := (congrArg Core.name hco).trans em_0.2.1
  have hnd : o1.needs.length = 0 := by have h : o1.needs = [] := (congrArg Core.needs hco).trans em_0.2.2; rw [h]; rfl
  have HB := Lib.hid (bTrans HB.out hb)
  rw [hnm, hnd]
  clear hco hb hnm hnd HP
  go_upto_region 2 with fail
  obtain ⟨V1, hV⟩ : ∃ V, w2.alloc (.cells #[.string ⟨#[97]⟩, .slice o1.na 0 o1.nc, .slice o1.ga o1.segs.length o1.gc, .slice o1.sa o1.syms.length o1.sc, .slice o1.ra o1.rels.length o1.rc, .slice o1.ia o1.init.length o1.ic, .slice o1.fa o1.fini.length o1.fc] 30) = V := ⟨_, rfl⟩
  have HT := Lib.hid (show Two w2.heap.size (.string ⟨#[97]⟩) (.slice o1.na 0 o1.nc) V1 by rw [← hV]; exact ⟨(BoxN.new w2 _ _).cell 0, (BoxN.new w2 _ _).cell 1⟩)
  have HB := Lib.hid (show Below w.heap.size w V1 by rw [← hV]; exact bAlloc HB.out _)
  rw [show ([97] : List UInt8).toArray = #[97] from rfl]
  rw [hV]
  obtain ⟨B1, hB1⟩ : ∃ B, w2.heap.size = B := ⟨_, rfl⟩
  rw [hB1] at HT ⊢
  clear hV hB1
  go_wp2_with fail
  refine (empty_any _).mono ?_; rintro e x1 ⟨rfl, hb1, hown⟩
  have HO := Lib.hid hown
  have HS := Lib.hid hb1
  clear hb1 hown
  go_wp2_with (at_builtin; refine wpList_appE 22 5 (.int .u8 0) 1 1 Try.underlying22 infoU8' rfl (by decide) (by decide) _ rfl _ _ rfl V1.heap.size _ 19 (u8v emptyL) rfl (HO.out.alloc _) (some ⟨x1.heap.size, 0, none⟩) 1 1 [.int .u8 0] rfl (Rd.lit x1 #[.int .u8 0] 5 (by show 1 ≤ maxLen; decide)) (fun u hu => by simp at hu; subst hu; rfl) (by omega) (by rw [size_alloc]; have := HS.out.size; omega) ?_; intro a3 c3 W3 hown3 hgrow3 hat3)
  have HS := Lib.hid (grownB (bAlloc HS.out _) hgrow3 (fun q e => (HO.out.lt q e).1))
  have HP := Lib.hid (parse_any' a3 20 c3 (emptyL ++ [0]) W3 rfl (rd_own1 (l := emptyL ++ [0]) hown3) (own_cap hown3) (by omega))
  rw [em_1] at HP
  clear hown3 hgrow3 hat3 HO
  go_wp2_with fail
  refine HP.out.mono ?_; rintro e w3 ⟨o2, rfl, hb, -⟩
  have HS := Lib.hid (bTrans HS.out hb)
  clear hb HP
  go_upto_region 3 with fail
  obtain ⟨V2, hV⟩ : ∃ V, w3.alloc (.cells #[.string ⟨o2.name.toArray⟩, .slice o2.na o2.needs.length o2.nc, .slice o2.ga o2.segs.length o2.gc, .slice o2.sa o2.syms.length o2.sc, .slice o2.ra o2.rels.length o2.rc, .slice o2.ia o2.init.length o2.ic, .slice o2.fa o2.fini.length o2.fc] 30) = V := ⟨_, rfl⟩
  have HT := Lib.hid (show Two B1 _ _ V2 by rw [← hV]; exact HT.out.below (bAlloc HS.out _))
  have HB := Lib.hid (show Below w.heap.size w V2 by rw [← hV]; exact bTrans HB.out (bAlloc HS.out _))
  rw [hV]
  clear hV HS
  go_wp2_with fail
  refine (empty_any _).mono ?_; rintro e x1 ⟨rfl, hb1, hown⟩
  have HS := Lib.hid hb1
  have HP := Lib.hid (parse_any' (some ⟨V2.heap.size, 0, none⟩) 18 19 (emptyL.take 18) x1 rfl (rd_take8 (rd_own1 hown) 18 (by omega)) (by omega) (by omega))
  rw [em_2] at HP
  clear hb1 hown
  go_wp2_with fail
  refine HP.out.mono ?_; rintro e w4 ⟨o3, rfl, hb, -⟩
  have HS := Lib.hid (bTrans HS.out hb)
  clear hb HP
  go_upto_region 4 with fail
  obtain ⟨V3, hV⟩ : ∃ V, w4.alloc (.cells #[.string ⟨o3.name.toArray⟩, .slice o3.na o3.needs.length o3.nc, .slice o3.ga o3.segs.length o3.gc, .slice o3.sa o3.syms.length o3.sc, .slice o3.ra o3.rels.length o3.rc, .slice o3.ia o3.init.length o3.ic, .slice o3.fa o3.fini.length o3.fc] 30) = V := ⟨_, rfl⟩
  have HT := Lib.hid (show Two B1 _ _ V3 by rw [← hV]; exact HT.out.below (bAlloc HS.out _))
  have HB := Lib.hid (show Below w.heap.size w V3 by rw [← hV]; exact bTrans HB.out (bAlloc HS.out _))
  rw [hV]
  clear hV HS
  have HP := Lib.hid (parse_any' none 0 0 [] V3 rfl (Rd.nil _ _) (by omega) (by omega))
  rw [em_3] at HP
  go_wp2_with fail
  refine HP.out.mono ?_; rintro e w5 ⟨o4, rfl, hb, -⟩
  have HS := Lib.hid hb
  clear hb HP
  go_upto_region 5 with fail
  obtain ⟨V4, hV⟩ : ∃ V, w5.alloc (.cells #[.string ⟨o4.name.toArray⟩, .slice o4.na o4.needs.length o4.nc, .slice o4.ga o4.segs.length o4.gc, .slice o4.sa o4.syms.length o4.sc, .slice o4.ra o4.rels.length o4.rc, .slice o4.ia o4.init.length o4.ic, .slice o4.fa o4.fini.length o4.fc] 30) = V := ⟨_, rfl⟩
  have HT := Lib.hid (show Two B1 _ _ V4 by rw [← hV]; exact HT.out.below (bAlloc HS.out _))
  have HB := Lib.hid (show Below w.heap.size w V4 by rw [← hV]; exact bTrans HB.out (bAlloc HS.out _))
  rw [hV]
  clear hV HS
  have HP := Lib.hid (parse_any' (some ⟨V4.heap.size, 0, none⟩) 5 5 [67, 69, 76, 70, 2] (V4.alloc (.cells #[.int .u8 67, .int .u8 69, .int .u8 76, .int .u8 70, .int .u8 2] 5)) rfl (Rd.lit V4 #[.int .u8 67, .int .u8 69, .int .u8 76, .int .u8 70, .int .u8 2] 5 (by show 5 ≤ maxLen; decide)) (by omega) (by omega))
  rw [em_4] at HP
  go_wp2_with fail
  refine HP.out.mono ?_; rintro e w6 ⟨o5, rfl, hb, -⟩
  have HS := Lib.hid (bTrans (bAlloc (Below.refl V4.heap.size V4) _) hb)
  clear hb HP
  go_upto_region 6 with fail
  obtain ⟨V5, hV⟩ : ∃ V, w6.alloc (.cells #[.string ⟨o5.name.toArray⟩, .slice o5.na o5.needs.length o5.nc, .slice o5.ga o5.segs.length o5.gc, .slice o5.sa o5.syms.length o5.sc, .slice o5.ra o5.rels.length o5.rc, .slice o5.ia o5.init.length o5.ic, .slice o5.fa o5.fini.length o5.fc] 30) = V := ⟨_, rfl⟩
  have HT := Lib.hid (show Two B1 _ _ V5 by rw [← hV]; exact HT.out.below (bAlloc HS.out _))
  have HB := Lib.hid (show Below w.heap.size w V5 by rw [← hV]; exact bTrans HB.out (bAlloc HS.out _))
  rw [hV]
  clear hV HS
  go_wp2_with fail
  refine (at_lit V5 10 ⟨by decide, by decide⟩ 0 (by decide)).mono ?_; rintro e w7 ⟨rfl, hb⟩
  have HT := Lib.hid (HT.out.below (bTrans (bAlloc (Below.refl V5.heap.size V5) _) hb))
  have HB := Lib.hid (bTrans HB.out (bTrans (bAlloc (Below.refl V5.heap.size V5) _) hb))
  clear hb
  go_wp2_with fail
  refine (at_lit w7 11 ⟨by decide, by decide⟩ (-1) (by decide)).mono ?_; rintro e w8 ⟨rfl, hb⟩
  have HT := Lib.hid (HT.out.below (bTrans (bAlloc (Below.refl w7.heap.size w7) _) hb))
  have HB := Lib.hid (bTrans HB.out (bTrans (bAlloc (Below.refl w7.heap.size w7) _) hb))
  clear hb
  have t0 := HT.out.1
  have t1 := HT.out.2
  go_wp2_with fail
  go_ret
  exact ⟨rfl, HB.out⟩
end Go.Proofs.Ytknldomgmogccaa
