/- GraphMore: its walk. -/
import Derived.Test.YtcafommklmepgaaGrMd
import Derived.Test.YtcafommklmepgaaGrR
namespace Go.Proofs.Ytcafommklmepgaa
set_option linter.unusedVariables false
set_option linter.unusedSimpArgs false
open Go.Joins Go.ChangeShapes Go.WideShapes Go.ChangeAt Go.RowKit Go.Deep

theorem size_drew' (w : World) : w.drew.heap.size = w.heap.size := rfl
abbrev Box7 (bx : Nat) (x : Obj) (W' : World) : Prop := W'.cell? ⟨bx, 0, none⟩ = some (Value.string ⟨x.name.toArray⟩) ∧ W'.cell? ⟨bx, 1, none⟩ = some (Value.slice x.na x.needs.length x.nc) ∧ W'.cell? ⟨bx, 2, none⟩ = some (Value.slice x.v2 x.n2 x.c2) ∧ W'.cell? ⟨bx, 3, none⟩ = some (Value.slice x.v3 x.n3 x.c3) ∧ W'.cell? ⟨bx, 4, none⟩ = some (Value.slice x.v4 x.n4 x.c4) ∧ W'.cell? ⟨bx, 5, none⟩ = some (Value.slice x.v5 x.n5 x.c5) ∧ W'.cell? ⟨bx, 6, none⟩ = some (Value.slice x.v6 x.n6 x.c6)
theorem box7_new {w W' : World} {x : Obj} {t : TypeId} (hb : Below (w.alloc (.cells #[Value.string ⟨x.name.toArray⟩, Value.slice x.na x.needs.length x.nc, Value.slice x.v2 x.n2 x.c2, Value.slice x.v3 x.n3 x.c3, Value.slice x.v4 x.n4 x.c4, Value.slice x.v5 x.n5 x.c5, Value.slice x.v6 x.n6 x.c6] t)).heap.size (w.alloc (.cells #[Value.string ⟨x.name.toArray⟩, Value.slice x.na x.needs.length x.nc, Value.slice x.v2 x.n2 x.c2, Value.slice x.v3 x.n3 x.c3, Value.slice x.v4 x.n4 x.c4, Value.slice x.v5 x.n5 x.c5, Value.slice x.v6 x.n6 x.c6] t)) W') : Box7 w.heap.size x W' :=
  ⟨boxed hb 0, boxed hb 1, boxed hb 2, boxed hb 3, boxed hb 4, boxed hb 5, boxed hb 6⟩
theorem Box7.below {bx : Nat} {x : Obj} {W W' : World} (h : Box7 bx x W) (hb : Below W.heap.size W W') : Box7 bx x W' := by
  have hl := heap_lt_of_cell h.1
  have g : ∀ j v, W.cell? ⟨bx, j, none⟩ = some v → W'.cell? ⟨bx, j, none⟩ = some v := fun j v q => (hb.cell (p := ⟨bx, j, none⟩) hl).trans q
  exact ⟨g _ _ h.1, g _ _ h.2.1, g _ _ h.2.2.1, g _ _ h.2.2.2.1, g _ _ h.2.2.2.2.1, g _ _ h.2.2.2.2.2.1, g _ _ h.2.2.2.2.2.2⟩
theorem more_leaf {W0 w7 : World} {m g c : Nat} {l' : List Obj} (h : w7.rangeAt g 0 (objsC l')) (hb : Below W0.heap.size W0 w7) : MoreC W0 m l' (.slice (some ⟨g, 0, none⟩) (m + 1) c) w7 := ⟨g, c, rfl, hb, h⟩
set_option maxRecDepth 100000 in
set_option maxHeartbeats 8000000 in
theorem more_yes (a : Option Addr) (l : List Obj) (c : Nat) (root : List UInt8) (x : Obj) (w : World) (hl : RdO w a l) (hs : shortB l 20 = true) (hnm : Named l) (hm : l.length ≤ 20) (hroot : root.length ≤ maxLen)
    (hx : Rd w x.na x.needs.length (txs x.needs)) (hxn : x.name.length ≤ maxLen ∧ ∀ n ∈ x.needs, n.length ≤ maxLen) (hxl : ¬ 10 < x.needs.length) (hne : (x.name == root) = false) :
    Calls Try.prog 7 #[.slice a l.length c, .string ⟨root.toArray⟩, .agg (objC x).toArray] w fun e w' => e = .returned (.bool true) ∧ Below w.heap.size w w' := by
  have HSH := Lib.hid (fun W (hW : RdO W a l) => short_any a l c 20 W hW (by unfold maxLen; omega) (by omega) (fun o ho => by have := (hnm o ho).2.1; unfold maxLen; omega))
  have HCL := Lib.hid (fun W (hW : RdO W a l) => closure_any a l c root W hW (by omega) hnm hroot)
  have hnm2 : Named (l ++ [x]) := fun o ho => by
    rcases List.mem_append.1 ho with h | h
    · exact hnm o h
    · rw [List.mem_singleton] at h; subst h
      exact ⟨hxn.1, by omega, hxn.2⟩
  have hlen2 : (l ++ [x]).length = l.length + 1 := by simp
  have HCL2 := Lib.hid (fun b d W (hW : RdO W b (l ++ [x])) => closure_any b (l ++ [x]) d root W hW (by rw [hlen2]; omega) hnm2 hroot)
  have HBE := Lib.hid (fun b (ord : List Nat) d W (hW : RdO W a l) (hV : Rd W b ord.length (i64s (ordZ ord))) (hO : Ord l ord) => begin_any a l c b ord d W hW (by omega) hnm hV hO.2 (by have := hO.le; omega))
  have HBE2 := Lib.hid (fun b' d' b (ord : List Nat) d W (hW : RdO W b' (l ++ [x])) (hV : Rd W b ord.length (i64s (ordZ ord))) (hO : Ord l ord) => begin_any b' (l ++ [x]) d' b ord d W hW (by rw [hlen2]; omega) hnm2 hV (fun k hk => by have := hO.2 k hk; rw [hlen2]; omega) (by have := hO.le; omega))
  rw [hlen2] at HCL2 HBE2
  have HL := Lib.hid hl
  have HX := Lib.hid hx
  have HND := Lib.hid (fun o ho => (hnm o ho).2.1)
  have HNE := Lib.hid (show root ≠ x.name from fun e => by rw [e] at hne; simp at hne)
  have hd10 : decide ((10 : Int) < (x.needs.length : Int)) = false := decide_eq_false (by omega)
  rw [hs] at HSH
  clear hl hnm hs hx hnm2 hxn hlen2 hxl
  obtain ⟨m, hlm⟩ : ∃ m, l.length = m := ⟨_, rfl⟩
  rw [hlm] at hm HSH HCL HCL2 HBE HBE2 ⊢
  have HLM := Lib.hid hlm
  clear hlm
  simp only [objC]
  go_enter Try.func7, Try.ntmps7
  go_wp2_with fail
  refine (awake_any _).mono ?_; rintro e w1 ⟨rfl, hb1⟩
  have B1 := Lib.hid (bTrans (bAlloc (Below.refl _ _) _) hb1)
  have XB := Lib.hid (box7_new hb1)
  generalize w.heap.size = bx at XB ⊢
  obtain ⟨X0, X1, -⟩ := XB.out
  clear hb1
  go_wp2_with fail
  refine (HSH.out _ (HL.out.below B1.out)).mono ?_; rintro e w2 ⟨rfl, rfl⟩
  go_wp2_with fail
  clear X0 X1 hd10 hne HSH
  go_loopw [9] (fun i wr => ∃ k : Nat, k ≤ m ∧ i = .int .i64 k ∧ Hid (∀ j (h : j < l.length), j < k → ∀ n ∈ l[j].needs, n ≠ x.name) ∧ Hid (Below w1.heap.size w1 wr)) (fun i _ => m - (intOf i).toNat)
  case atStart => exact ⟨0, by omega, rfl, Lib.hid (fun j h hj => absurd hj (by omega)), Lib.hid (Below.refl _ _)⟩
  case round =>
    obtain ⟨k, hk, rfl, HU, HB⟩ := hrel
    by_cases h : k < m
    · go_wp2_with fail
      have hkl : k < l.length := by rw [HLM.out]; exact h
      go_loopw [10] (fun i wr => ∃ q : Nat, q ≤ l[k].needs.length ∧ i = .int .i64 q ∧ Hid (∀ n ∈ l[k].needs.take q, n ≠ x.name) ∧ Hid (Below w1.heap.size w1 wr)) (fun i _ => l[k].needs.length - (intOf i).toNat)
      case atStart => exact ⟨0, by omega, rfl, Lib.hid (by simp), HB⟩
      case round =>
        obtain ⟨q, hq, rfl, HT, HB2⟩ := hrel
        have rdl := HL.out.below (bTrans B1.out HB2.out)
        obtain ⟨b, off, rfl, hc⟩ := rdl.at_ hkl
        have hrn := rdl.2 _ (List.getElem_mem hkl)
        have hnd := HND.out _ (List.getElem_mem hkl)
        obtain ⟨X0, -⟩ := XB.out.below HB2.out
        have HU' := Lib.hid (show (∀ n ∈ l[k].needs, n ≠ x.name) → ∀ j (h : j < l.length), j < k + 1 → ∀ n ∈ l[j].needs, n ≠ x.name from fun hh j h hj => by
          by_cases e : j = k
          · subst e; exact hh
          · exact HU.out j h (by omega))
        generalize l[k] = o at *
        obtain ⟨-, c1, -⟩ := hc
        by_cases hqo : q < o.needs.length
        · obtain ⟨g, f, e5, -, hcq⟩ := hrn.at_ hqo
          have hgq : (txs o.needs)[q]? = some (.string ⟨(o.needs[q]).toArray⟩) := by simp [txs, List.getElem?_eq_getElem hqo]
          rw [hgq] at hcq
          rw [e5] at c1
          have hts := List.take_succ_eq_append_getElem hqo
          have hmem := List.getElem_mem hqo
          generalize o.needs[q] = n at hcq hts hmem
          clear hrn rdl hgq
          cases hnn : n == x.name with
          | true =>
            clear hts hmem
            go_wp2_with fail
            go_quiet (fail)
            go_wp2_with fail
            go_ret
            exact ⟨rfl, bTrans B1.out (bDrewN HB2.out _)⟩
          | false =>
            have HT2 := Lib.hid (show ∀ y ∈ o.needs.take (q + 1), y ≠ x.name from fun y hy => by
              rw [hts] at hy
              rcases List.mem_append.1 hy with hy | hy
              · exact HT.out y hy
              · rw [List.mem_singleton] at hy; subst hy
                exact fun e => by rw [e] at hnn; simp at hnn)
            clear hts hmem
            go_wp2_with fail
            go_quiet (fail)
            go_wp2_with fail
            go_roundw
            case rel => exact ⟨q + 1, by omega, by go_num, HT2, Lib.hid (bDrewN HB2.out _)⟩
            case measure => simp [intOf]; omega
        · have hqe : q = o.needs.length := by omega
          have HU2 := Lib.hid (HU'.out (by have := HT.out; rw [hqe, List.take_length] at this; exact this))
          clear hrn rdl
          go_wp2_with fail
          go_roundw
          case rel => exact ⟨k + 1, by omega, by go_num, HU2, HB2⟩
          case measure => simp [intOf]; omega
    · have hun : Unnamed l x := fun o ho => by
        obtain ⟨j, hj, rfl⟩ := List.getElem_of_mem ho
        exact HU.out j hj (by rw [HLM.out] at hj; omega)
      have HUN := Lib.hid hun
      have HCM := Lib.hid (closR_more (root := root) hun HNE.out)
      clear hun
      have hke : k = m := by omega
      subst hke
      go_wp2_with fail
      have XW := Lib.hid (XB.out.below HB.out)
      have HN := Lib.hid (Below.refl wr.heap.size wr)
      have HLW := Lib.hid (HL.out.below (bTrans B1.out HB.out))
      have HK := Lib.hid (fun (W' : World) (h : Below wr.heap.size wr W') => XW.out.below h)
      refine region_join (MoreC wr k (l ++ [x])) ?_ ?_
      · go_region_held3 (fun W' => Box7 bx x W')
          (first | exact XW.out | exact HK.out _ (by first | ((repeat (first | exact HN.out | exact HW.out | with_reducible refine Below.drew ?_ | with_reducible refine bAlloc ?_ _)); done) | fail) | go_keep)
          (first
            | ((refine step_appO0 _ (by rfl) _ _ (by rfl) wr.heap.size _ (by rfl) a k c l (by rfl) (HLW.out.below (by first | ((repeat (first | exact HN.out | exact HW.out | with_reducible refine Below.drew ?_ | with_reducible refine bAlloc ?_ _)); done) | fail)) HLM.out (by omega) (Below.size (B := wr.heap.size) (by first | ((repeat (first | exact HN.out | exact HW.out | with_reducible refine Below.drew ?_ | with_reducible refine bAlloc ?_ _)); done) | fail)) (by first | exact Nat.le_refl _ | (simp; done) | (simp; omega) | omega | fail) (by first | exact Nat.le_refl _ | (simp; done) | (simp; omega) | omega | fail) ?_); intro g6 c6 w6 hroom6 hb6; have PB := Lib.hid hroom6; have HN := Lib.hid (bTrans (w := wr) (by first | ((repeat (first | exact HN.out | exact HW.out | with_reducible refine Below.drew ?_ | with_reducible refine bAlloc ?_ _)); done) | fail) hb6); (try (have q0 := Lib.hid (rangeAt_new (cs := #[Value.string ⟨x.name.toArray⟩, Value.slice x.na x.needs.length x.nc, Value.slice x.v2 x.n2 x.c2, Value.slice x.v3 x.n3 x.c3, Value.slice x.v4 x.n4 x.c4, Value.slice x.v5 x.n5 x.c5, Value.slice x.v6 x.n6 x.c6]) (t := 43) (u := wr.heap.size) (bTrans (by first | ((repeat (first | exact Below.refl _ _ | with_reducible refine Below.drew ?_ | with_reducible refine bAlloc ?_ _)); done) | fail) hb6) (by first | rfl | (simp only [size_alloc, size_drew']; done) | fail)))); (try (have q1 := Lib.hid (rangeAt_new (cs := #[Value.string ⟨x.name.toArray⟩, Value.slice x.na x.needs.length x.nc, Value.slice x.v2 x.n2 x.c2, Value.slice x.v3 x.n3 x.c3, Value.slice x.v4 x.n4 x.c4, Value.slice x.v5 x.n5 x.c5, Value.slice x.v6 x.n6 x.c6]) (t := 43) (u := wr.heap.size + 1) (bTrans (by first | ((repeat (first | exact Below.refl _ _ | with_reducible refine Below.drew ?_ | with_reducible refine bAlloc ?_ _)); done) | fail) hb6) (by first | rfl | (simp only [size_alloc, size_drew']; done) | fail)))); have hs6 := HN.out.size; clear hroom6 hb6)
            | ((refine step_appO1 _ (by rfl) _ _ (by rfl) wr.heap.size _ _ _ _ l x (by rfl) (by rfl) (PB.out.below (by first | ((repeat (first | exact Below.refl _ _ | with_reducible refine Below.drew ?_ | with_reducible refine bAlloc ?_ _)); done) | fail)) (by omega) (Below.size (B := wr.heap.size) (by first | ((repeat (first | exact HN.out | exact HW.out | with_reducible refine Below.drew ?_ | with_reducible refine bAlloc ?_ _)); done) | fail)) (by first | exact rangeAt_below q0.out.1 q0.out.2 (by first | ((repeat (first | exact Below.refl _ _ | with_reducible refine Below.drew ?_ | with_reducible refine bAlloc ?_ _)); done) | fail) | exact rangeAt_below q1.out.1 q1.out.2 (by first | ((repeat (first | exact Below.refl _ _ | with_reducible refine Below.drew ?_ | with_reducible refine bAlloc ?_ _)); done) | fail) | exact (rangeAt_new (cs := #[Value.string ⟨x.name.toArray⟩, Value.slice x.na x.needs.length x.nc, Value.slice x.v2 x.n2 x.c2, Value.slice x.v3 x.n3 x.c3, Value.slice x.v4 x.n4 x.c4, Value.slice x.v5 x.n5 x.c5, Value.slice x.v6 x.n6 x.c6]) (t := 43) (by first | ((repeat (first | exact Below.refl _ _ | with_reducible refine Below.drew ?_ | with_reducible refine bAlloc ?_ _)); done) | fail) (by first | rfl | (simp only [size_alloc, size_drew']; done) | fail)).1 | fail) ?_); intro g7 c7 w7 hr7 hb7; have PC := Lib.hid hr7; have HN := Lib.hid (Below.trans (B := wr.heap.size) (by first | ((repeat (first | exact HN.out | exact HW.out | with_reducible refine Below.drew ?_ | with_reducible refine bAlloc ?_ _)); done) | fail) hb7); clear hr7 hb7))
        all_goals (refine after_of (more_leaf PC.out HN.out) (by simp only [Act.put, List.setIfInBounds_toArray, List.set_cons_zero, List.set_cons_succ]; rfl))
      · intro v66 v67 v68 v69 v70 v71 v11 w2 hC
        simp only [Act.put, List.setIfInBounds_toArray, List.set_cons_zero, List.set_cons_succ]
        obtain ⟨g, cg, rfl, hb2, hr2⟩ := hC
        have B2 := Lib.hid (bTrans (bTrans B1.out HB.out) hb2)
        have HL2 := Lib.hid (HL.out.below B2.out)
        have HA2 := Lib.hid (rdo_range hr2 (fun o ho => by
          rcases List.mem_append.1 ho with h | h
          · exact HL2.out.2 o h
          · rw [List.mem_singleton] at h; subst h
            exact HX.out.below B2.out))
        have HC2 := Lib.hid (fun W (hW : Below w2.heap.size w2 W) => HCL2.out (some ⟨g, 0, none⟩) cg W (HA2.out.below hW))
        have HC1 := Lib.hid (fun W (hW : Below w2.heap.size w2 W) => HCL.out W (HL2.out.below hW))
        have HE2 := Lib.hid (fun b (ord : List Nat) d W (hW : Below w2.heap.size w2 W) => HBE2.out (some ⟨g, 0, none⟩) cg b ord d W (HA2.out.below hW))
        have HE1 := Lib.hid (fun b (ord : List Nat) d W (hW : Below w2.heap.size w2 W) => HBE.out b ord d W (HL2.out.below hW))
        clear hb2 hr2 HBE HBE2 HCL HCL2 HN HK HLW XW XB HU HNE HX HND B1 HB

        go_wp2_with fail
        refine (HC1.out _ (Below.refl _ _)).mono ?_; rintro e w3 ⟨hb3, hp3⟩
        cases hcr : closR l root with
        | inr n =>
          rw [hcr] at HCM hp3
          subst hp3
          have B3 := Lib.hid hb3
          clear hb3
          go_wp2_with fail
          refine (HC2.out _ B3.out).mono ?_; rintro e w4 ⟨hb4, hp4⟩
          rw [HCM.out] at hp4
          subst hp4
          have B4 := Lib.hid (bTrans B3.out hb4)
          clear hb4
          go_wp2_with fail
          refine (HE1.out none [] 0 _ B4.out (Rd.nil _ _) ⟨by simp, by simp⟩).mono ?_; rintro e w5 ⟨a5, c5, m5, o5, rfl, -, -, -, hb5⟩
          have B5 := Lib.hid (bTrans B4.out hb5)
          clear hb5
          go_wp2_with fail
          refine (HE2.out none [] 0 _ B5.out (Rd.nil _ _) ⟨by simp, by simp⟩).mono ?_; rintro e w6 ⟨a6, c6, m6, o6, rfl, -, -, -, hb6⟩
          have B6 := Lib.hid (bTrans B5.out hb6)
          clear hb6
          have HNU := Lib.hid (numbers_self none none 0 0 0 0 [] w6 (Rd.nil _ _) (Rd.nil _ _) (by omega) (by omega))
          have hse : (n == n) = true := by simp
          go_wp2_with fail
          refine HNU.out.mono ?_; rintro e w7 ⟨rfl, hb7⟩
          go_wp2_with fail
          go_ret
          exact ⟨rfl, bTrans B2.out (bTrans B6.out hb7)⟩
        | inl o =>
          rw [hcr] at HCM hp3
          obtain ⟨a3, c3, rfl, hr3⟩ := hp3
          obtain ⟨s, -, -, hO, -⟩ := closR_RE hcr
          have HO := Lib.hid hO
          have hol := hO.le
          rw [HLM.out] at hol
          have B3 := Lib.hid hb3
          have R3 := Lib.hid hr3
          have E1 := Lib.hid (fun W (hW : Below w2.heap.size w2 W) (hV : Rd W a3 o.length (i64s (ordZ o))) => HE1.out a3 o c3 W hW hV HO.out)
          clear hb3 hr3 hO
          go_wp2_with fail
          refine (HC2.out _ B3.out).mono ?_; rintro e w4 ⟨hb4, hp4⟩
          rw [HCM.out] at hp4
          obtain ⟨a4, c4, rfl, hr4⟩ := hp4
          have B4 := Lib.hid (bTrans B3.out hb4)
          have R3 := Lib.hid (R3.out.below hb4)
          have R4 := Lib.hid hr4
          have E2 := Lib.hid (fun W (hW : Below w2.heap.size w2 W) (hV : Rd W a4 o.length (i64s (ordZ o))) => HE2.out a4 o c4 W hW hV HO.out)
          clear hb4 hr4
          go_wp2_with fail
          refine (E1.out _ B4.out R3.out).mono ?_; rintro e w5 ⟨a5, c5, m5, o5, rfl, hv5, ho5, hg5, hb5⟩
          have B5 := Lib.hid (bTrans B4.out hb5)
          have R3 := Lib.hid (R3.out.below hb5)
          have R4 := Lib.hid (R4.out.below hb5)
          have R5 := Lib.hid (Rd.of_own ho5)
          have V5 := Lib.hid (Vis.more HUN.out HO.out.2 hv5)
          have hol5 := hg5.le
          rw [HLM.out] at hol5
          clear hb5 ho5 hv5 hg5
          go_wp2_with fail
          refine (E2.out _ B5.out R4.out).mono ?_; rintro e w6 ⟨a6, c6, m6, o6, rfl, hv6, ho6, -, hb6⟩
          obtain ⟨rfl, rfl⟩ := Vis.det V5.out hv6
          have B6 := Lib.hid (bTrans B5.out hb6)
          have R3 := Lib.hid (R3.out.below hb6)
          have R4 := Lib.hid (R4.out.below hb6)
          have R5 := Lib.hid (R5.out.below hb6)
          have R6 := Lib.hid (Rd.of_own ho6)
          clear hb6 ho6 hv6
          have HNU := Lib.hid (numbers_self a3 a4 o.length c3 o.length c4 (ordZ o) w6 R3.out R4.out (by omega) (by omega))
          go_wp2_with fail
          refine HNU.out.mono ?_; rintro e w7 ⟨rfl, hb7⟩
          have B7 := Lib.hid (bTrans B6.out hb7)
          have HNU2 := Lib.hid (numbers_self a5 a6 o5.length c5 o5.length c6 (ordZ o5) w7 (R5.out.below hb7) (R6.out.below hb7) (by omega) (by omega))
          clear hb7
          go_wp2_with fail
          refine HNU2.out.mono ?_; rintro e w8 ⟨rfl, hb8⟩
          go_wp2_with fail
          go_ret
          exact ⟨rfl, bTrans B2.out (bTrans B7.out hb8)⟩
theorem GraphMore_walk (a : Option Addr) (l : List Obj) (c : Nat) (root : List UInt8) (x : Obj) (w : World) (hl : RdO w a l) (hn : (∀ o ∈ l, o.name.length ≤ maxLen ∧ ∀ n ∈ o.needs, n.length ≤ maxLen) ∧ ∀ o ∈ l, o.needs.length ≤ maxLen) (hm : l.length ≤ maxLen) (hroot : root.length ≤ maxLen)
    (hx : Rd w x.na x.needs.length (txs x.needs)) (hxn : x.name.length ≤ maxLen ∧ ∀ n ∈ x.needs, n.length ≤ maxLen) :
    Calls Try.prog 7 #[.slice a l.length c, .string ⟨root.toArray⟩, .agg (objC x).toArray] w fun e w' => e = .returned (.bool true) ∧ Below w.heap.size w w' := by
  by_cases hs : shortB l 20 = true
  · by_cases h10 : 10 < x.needs.length
    · exact more_no a l c root x w hl hn.2 hm (Or.inr (Or.inl h10))
    · cases he : x.name == root with
      | true => exact more_no a l c root x w hl hn.2 hm (Or.inr (Or.inr he))
      | false =>
        obtain ⟨hnm, hm20⟩ := short_named hs hn.1
        exact more_yes a l c root x w hl hs hnm hm20 hroot hx hxn h10 he
  · exact more_no a l c root x w hl hn.2 hm (Or.inl ((Bool.not_eq_true _).mp hs))
end Go.Proofs.Ytcafommklmepgaa
