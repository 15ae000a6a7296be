/- Reach: contract. -/
import Derived.Test.YtfneikphgmjfbaaGrR
import Derived.Test.YtfneikphgmjfbaaShelf
import Derived.Sort.OwnSortedInts
namespace Go.Proofs.Ytfneikphgmjfbaa
set_option linter.unusedVariables false
set_option linter.unusedSimpArgs false
open Go.Joins Go.ChangeShapes Go.WideShapes Go.ChangeAt Go.RowKit

theorem setCell_new (w : World) (cs : Array Value) (t : TypeId) (s : Nat) (v : Value) : (w.alloc (.cells cs t)).setCell ⟨w.heap.size, s, none⟩ v = w.alloc (.cells (cs.setIfInBounds s v) t) := by
  simp [go_sem]
def ReachAt (w0 W : World) (mb mm : Nat) (l : List Obj) (v : Value) (o : List Nat) : Prop :=
  (w0.heap.size ≤ mm ∧ mb < mm ∧ mm < W.heap.size) ∧ PlacesAt W mb l ∧ ((∀ j, W.frozen? ⟨mm, j, none⟩ = false) ∧ ∀ k, k < l.length → W.cell? ⟨mm, k, none⟩ = some (.bool (o.contains k))) ∧
  W.ownsRow (mm + 1) 3 1 v o.length (i64s (ordZ o)) ∧ Below w0.heap.size w0 W
theorem ReachAt.add {w0 W W2 : World} {mb mm : Nat} {l : List Obj} {v v' : Value} {o : List Nat} {k : Nat} (h : ReachAt w0 W mb mm l v o) (hk : k < l.length) (ob : Go.Obj) (hgr : ((W.setCell ⟨mm, k, none⟩ (.bool true)).alloc ob).grownBy W2 v.ownBlock)
    (ho : W2.ownsRow (mm + 1) 3 1 v' (o ++ [k]).length (i64s (ordZ (o ++ [k])))) : ReachAt w0 W2 mb mm l v' (o ++ [k]) := by
  obtain ⟨⟨h1, h2, h3⟩, hp, ⟨m1, m2⟩, ho0, hb⟩ := h
  have hvo := fun q (hq : v.ownBlock = some q) => (ho0.lt q hq).1
  have old := fun b j (hlt : b < mm + 1) => grown_old hgr (b := b) (by simp; omega) (fun e => by have := hvo b e; omega) j
  have hsz := hgr.size
  rw [size_alloc] at hsz
  simp at hsz
  refine ⟨⟨h1, h2, by omega⟩, hp.block ?_, ⟨fun j => ?_, fun j hj => ?_⟩, ho, ?_⟩
  · rw [hgr.block mb (by rw [size_alloc]; simp; omega) (fun e => by have := hvo mb e.symm; omega), Below.heap_alloc _ _ _ (by simp; omega), Below.heap_setCell _ _ _ _ (show mb ≠ mm by omega)]
  · rw [(old mm j (by omega)).2, World.frozen?_setCell]; exact m1 j
  · rw [(old mm j (by omega)).1]
    by_cases e : k = j
    · subst e
      rw [World.cell?_setCell_same _ _ _ (m2 k hj)]
      simp
    · rw [World.cell?_setCell_other _ _ _ _ (by simp [e]), m2 j hj]
      have e' : ¬ j = k := fun q => e q.symm
      simp [e']
  · have b1 := hb.setCell (p := ⟨mm, k, none⟩) h1 (.bool true)
    have b2 := b1.alloc b1.size ob
    exact b2.grown hgr (by rw [size_alloc]; simp; omega) (fun q hq => by have := hvo q hq; omega)
theorem ReachAt.start (w w1 : World) (mb : Nat) (l : List Obj) (s : Nat) (hs : s < l.length) (t2 : TypeId) (hb1 : Below w.heap.size w w1) (hp : PlacesAt w1 mb l) (c : Nat) :
    ReachAt w ((((w1.alloc (.cells (madeCells #[.bool false] l.length) t2)).setCell ⟨w1.heap.size, s, none⟩ (.bool true))).alloc (.cells #[.int .i64 (s : Int)] 3)) mb w1.heap.size l (.slice (some ⟨w1.heap.size + 1, 0, none⟩) 1 1) [s] := by
  have hpl := hp.lt
  have s1 := size_alloc w1 (.cells (madeCells #[.bool false] l.length) t2)
  have hlit := World.ownsRow_lit (base := w1.heap.size + 1) (e := 3) (size := 1) ((w1.alloc (.cells (madeCells #[.bool false] l.length) t2)).setCell ⟨w1.heap.size, s, none⟩ (.bool true)) #[.int .i64 (s : Int)] 1 (by simp) (by decide) rfl
  have e : ((w1.alloc (.cells (madeCells #[.bool false] l.length) t2)).setCell ⟨w1.heap.size, s, none⟩ (.bool true)).heap.size = w1.heap.size + 1 := by simp
  rw [e] at hlit
  have bel : Below w1.heap.size w1 ((((w1.alloc (.cells (madeCells #[.bool false] l.length) t2)).setCell ⟨w1.heap.size, s, none⟩ (.bool true))).alloc (.cells #[.int .i64 (s : Int)] 3)) :=
    bAlloc ((bAlloc (Below.refl w1.heap.size w1) (.cells (madeCells #[.bool false] l.length) t2)).setCell (p := ⟨w1.heap.size, s, none⟩) (Nat.le_refl _) _) _
  have cm : ∀ k, k < l.length → (w1.alloc (.cells (madeCells #[.bool false] l.length) t2)).cell? ⟨w1.heap.size, k, none⟩ = some (.bool false) := fun k hk => cell_made _ _ _ _ _ _ rfl hk
  refine ⟨⟨hb1.size, hpl, by simp; omega⟩, hp.below bel, ⟨fun j => ?_, fun k hk => ?_⟩, hlit, bTrans hb1 bel⟩
  · refine ((bAlloc (Below.refl _ _) _).frozen (p := ⟨w1.heap.size, j, none⟩) (by simp)).trans ?_
    rw [World.frozen?_setCell]
    exact frozen_new _ _ _ _ _ rfl
  · refine ((bAlloc (Below.refl _ _) _).cell (p := ⟨w1.heap.size, k, none⟩) (by simp)).trans ?_
    by_cases e : s = k
    · subst e
      rw [World.cell?_setCell_same _ _ _ (cm s hk)]
      simp
    · rw [World.cell?_setCell_other _ _ _ _ (by simp [e]), cm k hk]
      have e' : ¬ k = s := fun q => e q.symm
      simp [e']
/-- slices.Sort of a row of one's own -/
theorem sort_any (a : Option Addr) (n c B : Nat) (z : List Int) (w0 w : World) (ho : w.ownsRow B 3 1 (.slice a n c) n (i64s z)) (hB : w0.heap.size ≤ B) (hb : Below w0.heap.size w0 w) (hn : n ≤ 1000000) (hpos : 0 < n) :
    Calls Try.prog 55 #[.slice a n c] w fun e w' => e = .returned (.tuple #[]) ∧ w'.ownsRow B 3 1 (.slice a n c) n (i64s (z.mergeSort fun x y => decide (x ≤ y))) ∧ Below w0.heap.size w0 w' := by
  have hz : z.length = n := by have := ho.1; rw [i64s_length] at this; omega
  rcases ho.2 with ⟨h1, h2⟩ | ⟨g, cap, cur, h1, hg, hh, hnc, hcm, hcs, htake⟩
  · omega
  · injection h1 with h1 _ h3
    subst h1
    subst h3
    subst hz
    have hholds := holds_of_blockI (ss := z) hh (by simpa [i64s] using htake)
    have hgl : g < w.heap.size := by
      rcases Nat.lt_or_ge g w.heap.size with h | h
      · exact h
      · rw [Array.getElem?_eq_none h] at hh; cases hh
    refine (Try.slices_Sort_int g 0 c z w hholds hgl (by omega)).mono ?_
    rintro e w' ⟨rfl, m, os, rfl⟩
    refine ⟨rfl, ?_, ?_⟩
    · have := ownsRow_sortedI (w := w) (base := B) (g := g) (cap := c) (n := m) (e := 3) (os := os) (cur := cur) (ss := z) (ts := z.mergeSort fun x y => decide (x ≤ y)) (List.length_mergeSort z) hg hh hnc hcm hcs
      simpa [i64s] using this
    · exact hb.grown (grownBy_sortedI _) hb.size (fun q hq => by cases hq; omega)
/-- what Reach leaves -/
def ReachPost (w : World) (l : List Obj) (s : Nat) (e : Ending) (w' : World) : Prop :=
  ∃ a c o, e = .returned (.slice a o.length c) ∧ Rd w' a o.length (i64s (ordZ o)) ∧ Ord l o ∧ (∀ k, k ∈ o ↔ RE l s k) ∧ (ordZ o).Pairwise (fun x y => decide (x ≤ y) = true) ∧ Below w.heap.size w w'
theorem ordZ_mem (o : List Nat) (k : Nat) : (k : Int) ∈ ordZ o ↔ k ∈ o := by
  unfold ordZ
  rw [List.mem_map]
  exact ⟨fun ⟨a, ha, e⟩ => by obtain rfl : a = k := by omega
                              exact ha, fun h => ⟨k, h, rfl⟩⟩
theorem nats_of {l : List Obj} {o : List Nat} {z : List Int} (h : Ord l o) (hp : z.Perm (ordZ o)) : ∃ o', z = ordZ o' ∧ Ord l o' ∧ ∀ k, k ∈ o' ↔ k ∈ o := by
  obtain ⟨o', rfl, ho⟩ := right_nats z l.length fun x hx => by
    have := hp.mem_iff.1 hx
    simp only [ordZ, List.mem_map] at this
    obtain ⟨k, hk, rfl⟩ := this
    have := h.2 k hk
    omega
  have hnd : (ordZ o).Nodup := by
    unfold ordZ
    exact List.Pairwise.map _ (fun a b hab e => hab (by omega)) h.1
  refine ⟨o', rfl, ⟨ordZ_inj_nodup o' (hp.nodup_iff.2 hnd), ho⟩, fun k => ?_⟩
  rw [← ordZ_mem o, ← hp.mem_iff, ordZ_mem]
theorem reach_post {w w' : World} {l : List Obj} {s : Nat} {a : Option Addr} {o : List Nat} {c : Nat} (hO : Ord l o) (hm : ∀ k, k ∈ o ↔ RE l s k) (hown : w'.ownsRow w.heap.size 3 1 (.slice a o.length c) o.length (i64s ((ordZ o).mergeSort fun x y => decide (x ≤ y)))) (hb : Below w.heap.size w w') :
    ReachPost w l s (.returned (.slice a o.length c)) w' := by
  have hp : ((ordZ o).mergeSort fun x y => decide (x ≤ y)).Perm (ordZ o) := List.mergeSort_perm _ _
  have hs := List.pairwise_mergeSort (le := fun x y : Int => decide (x ≤ y)) (fun a b c h1 h2 => by simp at h1 h2 ⊢; omega) (fun a b => by simp; omega) (ordZ o)
  have hr := Rd.of_own hown
  obtain ⟨o', he, h1, h2⟩ := nats_of hO hp
  rw [he] at hs hr
  have hlen : o.length = o'.length := by have := congrArg List.length he; rw [List.length_mergeSort, ordZ_length, ordZ_length] at this; exact this
  rw [hlen] at hr ⊢
  exact ⟨a, c, o', rfl, hr, h1, fun k => (h2 k).trans (hm k), hs, hb⟩
set_option maxRecDepth 100000 in
set_option maxHeartbeats 4000000 in
theorem reach_any (a : Option Addr) (l : List Obj) (c s : Nat) (w : World) (hl : RdO w a l) (hm : l.length ≤ 1000000) (hnm : Named l) (hs : s < l.length) :
    Calls Try.prog 53 #[.slice a l.length c, .int .i64 (s : Int)] w (ReachPost w l s) := by
  have HL := Lib.hid hl
  have HN := Lib.hid hnm
  have HS := Lib.hid hs
  have HRS := Lib.hid (RS.start hs)
  have HPL := Lib.hid (fun W (hW : RdO W a l) => places_any a l c W hW hm (fun o ho => (hnm o ho).1))
  have hmk := run_make_row' (P := Try.prog) 73 4 (.bool false) 1 Try.underlying73 (by kernel_rfl) rfl .i64 .i64 l.length (by omega) (by omega)
  obtain ⟨i0', hz⟩ := info_parts infoInt
  have HI := Lib.hid hz
  clear hl hnm hz
  obtain ⟨m, hlm⟩ : ∃ m, l.length = m := ⟨_, rfl⟩
  rw [hlm] at hm HPL hmk hs ⊢
  have HLM := Lib.hid hlm
  have d1 : decide ((s : Int) < 0) = false := decide_eq_false (by omega)
  have d2 : decide ((m : Int) ≤ (s : Int)) = false := decide_eq_false (by omega)
  clear hlm
  go_enter Try.func53, Try.ntmps53
  go_wp2_with fail
  refine (HPL.out _ HL.out).mono ?_; rintro e w1 ⟨mb, rfl, hp, hmb, hb1⟩
  have hst := ReachAt.start w w1 mb l s HS.out 4 hb1 hp c
  rw [HLM.out] at hst
  have HST := Lib.hid hst
  have hcm := cell_made w1 m s (.bool false) 4 _ rfl hs
  have hfm := frozen_new w1 (madeCells #[.bool false] m) 4 _ s rfl
  have hz1 := hb1.size
  clear hst hp hmb hb1
  go_wp2_with fail
  clear hmk hcm hfm d1 d2 hs
  obtain ⟨H, hH⟩ : ∃ H, w1.heap.size = H := ⟨_, rfl⟩
  rw [setCell_new] at HST
  rw [hH] at HST hz1 ⊢
  clear hH
  go_loopw [7, 8] (fun v i wr => ∃ (i0 : Nat) (o : List Nat), i = .int .i64 i0 ∧ i0 ≤ o.length ∧ Hid (RS l s o i0) ∧ Hid (ReachAt w wr mb H l v o)) (fun _ i _ => m - (intOf i).toNat)
  case atStart => exact ⟨0, [s], rfl, by simp, HRS, HST⟩
  case round =>
    obtain ⟨i0, o, rfl, hio, HR, HA⟩ := hrel
    have hol := HR.out.1.le
    rw [HLM.out] at hol
    obtain ⟨ao, co, rfl, -⟩ := own_slice HA.out.2.2.2.1
    have hbel := HA.out.2.2.2.2
    by_cases hlt : i0 < o.length
    · have HRT := Lib.hid (RT.start HR.out hlt)
      have hkl : o[i0] < l.length := HR.out.1.2 _ (List.getElem_mem hlt)
      obtain ⟨go', fo, rfl, -, hoc⟩ := (Rd.of_own HA.out.2.2.2.1).at_ hlt
      rw [ordZ_get o i0 hlt] at hoc
      generalize o[i0] = kk at HRT hkl hoc
      obtain ⟨B, off, rfl, hc⟩ := (HL.out.below hbel).at_ hkl
      have hxm := List.getElem_mem hkl
      have hnn := HN.out _ hxm
      generalize hx : l[kk] = x at hc hxm hnn
      have HX := Lib.hid hx
      have HXM := Lib.hid hxm
      have HNN := Lib.hid hnn
      have HKL := Lib.hid hkl
      have hnl := hnn.2.1
      obtain ⟨-, g1, -⟩ := hc
      obtain ⟨q, hq⟩ : ∃ q, x.needs.length = q := ⟨_, rfl⟩
      obtain ⟨na, hna⟩ : ∃ na, x.na = na := ⟨_, rfl⟩
      rw [hq, hna] at g1
      rw [hq] at hnl
      have HQ := Lib.hid hq
      have HNA := Lib.hid hna
      have kk1 : kk < m := by rw [← HLM.out]; exact hkl
      have him : i0 < m := by omega
      clear hx hxm hnn hq hna hbel
      go_wp2_with fail
      clear hoc g1
      go_loopw [7, 46] (fun v i wr => ∃ (j : Nat) (o' : List Nat), i = .int .i64 j ∧ j ≤ q ∧ Hid (RT l s o' i0 kk j) ∧ Hid (ReachAt w wr mb H l v o')) (fun _ i _ => q - (intOf i).toNat)
      case atStart => exact ⟨0, o, rfl, by omega, HRT, HA⟩
      case round =>
        obtain ⟨j, o', rfl, hj, HT, HA2⟩ := hrel
        have hol' := HT.out.1.1.le
        rw [HLM.out] at hol'
        obtain ⟨ao2, co2, rfl, -⟩ := own_slice HA2.out.2.2.2.1
        by_cases hjq : j < q
        · have hjn : j < x.needs.length := by rw [HQ.out]; exact hjq
          obtain ⟨nb, noff, hne, -, hnc⟩ := ((HL.out.below HA2.out.2.2.2.2).2 x HXM.out).at_ hjn
          rw [HNA.out] at hne
          subst hne
          rw [txs_get x.needs j hjn] at hnc
          have hnlen := HNN.out.2.2 _ (List.getElem_mem hjn)
          have htk := needsI_take l kk x HKL.out HX.out j hjn
          generalize x.needs[j] = nm at hnc hnlen htk
          have HTK := Lib.hid htk
          have hr := map_lookup wr mb l nm HA2.out.2.1 hnlen 74 rfl
          clear htk hjn
          cases hf : fidx l nm with
          | none =>
            rw [hf] at hr
            simp only [Option.getD_none, Option.isSome_none] at hr
            have HT2 := Lib.hid (HT.out.keep HTK.out (fun k e => by rw [hf] at e; cases e))
            clear hf
            go_wp2_with fail
            go_roundw
            case rel => exact ⟨j + 1, o', by go_num, by omega, HT2, HA2⟩
            case measure => simp [intOf]; omega
          | some k1 =>
            rw [hf] at hr
            simp only [Option.getD_some, Option.isSome_some] at hr
            have hk1 := fidx_lt hf
            have HK1 := Lib.hid hk1
            have hmk := HA2.out.2.2.1.2 k1 hk1
            have hmf := HA2.out.2.2.1.1 k1
            rw [HLM.out] at hk1
            have HTK2 := Lib.hid (show (needsI l kk).take (j + 1) = (needsI l kk).take j ++ [some k1] by rw [HTK.out, hf])
            clear hf
            cases hcn : o'.contains k1 with
            | true =>
              rw [hcn] at hmk
              have HT2 := Lib.hid (HT.out.keep HTK2.out (fun k e => by cases e; exact List.contains_iff_mem.1 hcn))
              clear hcn
              go_wp2_with fail
              go_roundw
              case rel => exact ⟨j + 1, o', by go_num, by omega, HT2, HA2⟩
              case measure => simp [intOf]; omega
            | false =>
              rw [hcn] at hmk
              have HT2 := Lib.hid (HT.out.add HTK2.out HK1.out hcn)
              have HO1 := Lib.hid (show (wr.setCell ⟨H, k1, none⟩ (.bool true)).ownsRow (H + 1) 3 1 (.slice ao2 o'.length co2) o'.length (i64s (ordZ o')) from own_kept_block HA2.out.2.2.2.1 fun g hg => Below.heap_setCell _ _ _ _ (show g ≠ H by omega))
              have hHs := HA2.out.1.2.2
              clear hcn
              go_wp2_with (at_builtin; refine wpList_append_own _ rfl _ _ 26 rfl (H + 1) 3 i0' (.int .i64 0) 1 8 Try.underlying26 HI.out.1 HI.out.2.1 HI.out.2.2.1 HI.out.2.2.2 rfl (by decide) (.slice ao2 o'.length co2) o'.length _ rfl (HO1.out.alloc _) ⟨wr.heap.size, 0, none⟩ 1 1 [.int .i64 (k1 : Int)] rfl rfl (cell_one_at (wr.setCell ⟨H, k1, none⟩ (.bool true)) (.int .i64 (k1 : Int)) 3 wr.heap.size (by simp)) (fun x hx => by simp at hx; subst hx; rfl) (by unfold maxLen; omega) (by omega) (by simp; omega) ?_; intro v' w3 hown' hgrow3 hnil3; obtain ⟨a', c', rfl, hl'⟩ := own_slice hown'; have HOW := Lib.hid hown'; clear hnil3 hown')
              go_roundw
              case rel => exact ⟨j + 1, o' ++ [k1], by go_num, by omega, HT2, Lib.hid (HA2.out.add HK1.out _ hgrow3 (by have := HOW.out; simpa [ordZ, i64s] using this))⟩
              case measure => simp [intOf]; omega
        · have hall := needsI_all l kk x HKL.out HX.out j (by rw [HQ.out]; omega)
          have HR2 := Lib.hid (HT.out.done hall)
          have hi2 := HT.out.2.1.1
          clear hall
          go_wp2_with fail
          go_roundw
          case rel => exact ⟨i0 + 1, o', by go_num, by omega, HR2, HA2⟩
          case measure => simp [intOf]; omega
    · have HD := Lib.hid (HR.out.done (by omega))
      have hpos : 0 < o.length := List.length_pos_of_mem HR.out.2.1
      have HSO := Lib.hid (sort_any ao o.length co (H + 1) (ordZ o) w wr HA.out.2.2.2.1 (by have := HA.out.1.1; omega) hbel (by omega) hpos)
      have HBH := Lib.hid HA.out.1.1
      go_wp2_with fail
      refine HSO.out.mono ?_; rintro e w2 ⟨rfl, hown, hb2⟩
      have HOWN := Lib.hid hown
      have HB2 := Lib.hid hb2
      clear hown hb2 hbel
      go_wp2_with fail
      go_ret
      exact reach_post HR.out.1 HD.out (HOWN.out.mono (base' := w.heap.size) (by have := HBH.out; omega)) HB2.out
end Go.Proofs.Ytfneikphgmjfbaa
