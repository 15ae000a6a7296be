/- Merged: TmTg Tm1 TmSo. -/
import Derived.Test.YtjefkhieihigiaaGreatSo5
import Derived.Test.YtjefkhieihigiaaGreatTa5
namespace Go.Proofs.YtjefkhieihigiaaGreat
set_option linter.unusedVariables false
set_option linter.unusedSimpArgs false
open Go.Joins Go.ChangeShapes Go.WideShapes Go.ChangeAt Go.RowKit Go.Deep

/-- a page's granules with a tag, of the first k -/
def tagL (mks : List Nat) (p k : Nat) : List Nat := ((List.range k).filter fun i => decide (8 * p + i ∈ mks)).map fun i => 8 * p + i
theorem tagL_succ (mks : List Nat) (p k : Nat) : tagL mks p (k + 1) = tagL mks p k ++ if 8 * p + k ∈ mks then [8 * p + k] else [] := by
  unfold tagL
  rw [List.range_succ, List.filter_append, List.map_append]
  congr 1
  by_cases h : 8 * p + k ∈ mks
  · simp [h]
  · simp [h]
theorem tagL_len (mks : List Nat) (p k : Nat) : (tagL mks p k).length ≤ k := by
  unfold tagL
  rw [List.length_map]
  exact Nat.le_trans (List.length_filter_le _ _) (by simp)
theorem mem_tagL {mks : List Nat} {p k x : Nat} : x ∈ tagL mks p k ↔ x ∈ mks ∧ 8 * p ≤ x ∧ x < 8 * p + k := by
  unfold tagL
  simp only [List.mem_map, List.mem_filter, List.mem_range, decide_eq_true_eq]
  constructor
  · rintro ⟨i, ⟨h1, h2⟩, rfl⟩
    exact ⟨h2, by omega, by omega⟩
  · rintro ⟨h1, h2, h3⟩
    exact ⟨x - 8 * p, ⟨by omega, by rwa [show 8 * p + (x - 8 * p) = x by omega]⟩, by omega⟩
def tagsTo (mks pgs : List Nat) (j : Nat) : List Nat := (pgs.take j).flatMap fun p => tagL mks p 8
theorem tagsTo_succ (mks pgs : List Nat) (j : Nat) (h : j < pgs.length) : tagsTo mks pgs (j + 1) = tagsTo mks pgs j ++ tagL mks pgs[j] 8 := by
  unfold tagsTo
  rw [List.take_succ_eq_append_getElem h, List.flatMap_append]
  simp
theorem tagsTo_len (mks pgs : List Nat) (j : Nat) : (tagsTo mks pgs j).length ≤ 8 * j := by
  induction j with
  | zero => simp [tagsTo]
  | succ j ih =>
    by_cases h : j < pgs.length
    · rw [tagsTo_succ _ _ _ h, List.length_append]
      have := tagL_len mks pgs[j] 8
      omega
    · have : tagsTo mks pgs (j + 1) = tagsTo mks pgs j := by
        unfold tagsTo
        rw [List.take_of_length_le (by omega), List.take_of_length_le (by omega)]
      rw [this]
      omega
theorem rise_tagL (mks : List Nat) (p k : Nat) : Rise (tagL mks p k) := by
  unfold tagL
  refine List.pairwise_map.2 (List.Pairwise.filter _ ?_)
  exact List.Pairwise.imp (fun h => by omega) List.pairwise_lt_range
theorem rise_tags (mks : List Nat) : ∀ (l : List Nat), Rise l → Rise (l.flatMap fun p => tagL mks p 8) := by
  intro l
  induction l with
  | nil => intro _; exact List.Pairwise.nil
  | cons p r ih =>
    intro h
    have hp := List.pairwise_cons.1 h
    rw [List.flatMap_cons]
    refine List.pairwise_append.2 ⟨rise_tagL _ _ _, ih hp.2, fun x hx y hy => ?_⟩
    obtain ⟨q, hq, hy⟩ := List.mem_flatMap.1 hy
    have h1 := mem_tagL.1 hx
    have h2 := mem_tagL.1 hy
    have h3 := hp.1 q hq
    omega
theorem tags_all {m : Mm} (h : Okm m) : tagsTo m.mks m.pgs m.pgs.length = m.mks := by
  unfold tagsTo
  rw [List.take_length]
  refine rise_ext (rise_tags _ _ h.pr) h.mr fun x => ?_
  rw [List.mem_flatMap]
  constructor
  · rintro ⟨p, _, hx⟩
    exact (mem_tagL.1 hx).1
  · intro hx
    exact ⟨x / 8, h.ml x hx, mem_tagL.2 ⟨hx, by omega, by omega⟩⟩
set_option maxRecDepth 100000 in
set_option maxHeartbeats 4000000 in
theorem tags_any (W : World) (M B : Nat) (D : DataW Unit) (pb : Nat → Nat) (F : Nat → Prop) (m : Mm) (h : MemO W M B D pb F m) :
    Calls Tryz.prog 14 #[.pointer (some ⟨M, 0, none⟩)] W fun e W' => ∃ (a : Option Addr) (c : Nat), e = .returned (.slice a m.mks.length c) ∧ W'.ownsRow W.heap.size 22 1 (.slice a m.mks.length c) m.mks.length (u64s (m.mks.map (32 * ·))) ∧ Below W.heap.size W W' := by
  have HP := Lib.hid (pages_any W M B D pb F m h)
  have HM := Lib.hid (fun W' (hb : Below W.heap.size W W') => h.below hb)
  have HOK := Lib.hid h.ok
  have HTA := Lib.hid (tags_all h.ok)
  have hl := h.ok.len
  have hbd := h.ok.bud
  obtain ⟨n, hn⟩ : ∃ n, m.pgs.length = n := ⟨_, rfl⟩
  rw [hn] at HP hl HTA
  have HN := Lib.hid hn
  clear h hn
  go_enter Tryz.func14, Tryz.ntmps14
  go_wp2_with fail
  refine HP.out.mono ?_
  rintro e W1 ⟨a, c, rfl, ho, hb1⟩
  have HRD := Lib.hid (by have := own_rd ho; rwa [Nat.mul_one] at this : Rd W1 a n (u64s m.pgs))
  have HB1 := Lib.hid hb1
  clear ho hb1 HP
  go_wp2_with fail
  go_loopw [3, 11] (fun v3 v11 wr => ∃ (j : Nat) (v : Value), v3 = v ∧ v11 = .int .i64 j ∧ j ≤ n ∧ Hid (wr.ownsRow W1.heap.size 22 1 v (tagsTo m.mks m.pgs j).length (u64s ((tagsTo m.mks m.pgs j).map (32 * ·)))) ∧ Hid (Below W1.heap.size W1 wr)) (fun _ i _ => n - (intOf i).toNat)
  case atStart => exact ⟨0, _, rfl, rfl, by omega, Lib.hid (World.ownsRow_nil _ _ _ _), Lib.hid (Below.refl _ _)⟩
  case round =>
    obtain ⟨j, v, rfl, rfl, hj, HO, HB⟩ := hrel
    by_cases hlt : j < n
    · have hltz : (j : Int) < (n : Int) := by omega
      have j0 : (0 : Int) ≤ (j : Int) := by omega
      have hjl : j < m.pgs.length := by rw [HN.out]; exact hlt
      have hin : m.pgs[j] ∈ m.pgs := List.getElem_mem hjl
      obtain ⟨b1, o1, e1, hb1, d0⟩ := (HRD.out.below HB.out).at_ hlt
      subst e1
      rw [u64s_get m.pgs j hjl] at d0
      have hpl := HOK.out.pl _ hin
      have hsucc := tagsTo_succ m.mks m.pgs j hjl
      have hlen := tagsTo_len m.mks m.pgs j
      obtain ⟨p, hp⟩ : ∃ p, m.pgs[j] = p := ⟨_, rfl⟩
      rw [hp] at d0 hpl hin hsucc
      have hMr := HM.out wr (HB1.out.trans (HB.out.mono HB1.out.size))
      have HPO := Lib.hid (pageOf_any wr M B D pb F m hMr (256 * p) (by omega))
      rw [show 256 * p / 256 = p by omega, show pgP pb m p = some ⟨pb p, 0, none⟩ by unfold pgP; rw [if_pos hin], show ((256 * p : Nat) : Int) = (p : Int) * 256 by omega] at HPO
      have hbx := hMr.pg p hin
      have f0 : wr.cell? ⟨pb p, 256, none⟩ = some (.bool (decide (8 * p + 0 ∈ m.mks))) := by rw [hbx.cell, List.getElem?_toArray]; exact pageC_tag m p 0 (by decide)
      obtain ⟨b0, hb0⟩ : ∃ b, decide (8 * p + 0 ∈ m.mks) = b := ⟨_, rfl⟩
      rw [hb0] at f0
      have HB0 := Lib.hid hb0
      clear hb0
      have f1 : wr.cell? ⟨pb p, 257, none⟩ = some (.bool (decide (8 * p + 1 ∈ m.mks))) := by rw [hbx.cell, List.getElem?_toArray]; exact pageC_tag m p 1 (by decide)
      obtain ⟨b1, hb1⟩ : ∃ b, decide (8 * p + 1 ∈ m.mks) = b := ⟨_, rfl⟩
      rw [hb1] at f1
      have HB1 := Lib.hid hb1
      clear hb1
      have f2 : wr.cell? ⟨pb p, 258, none⟩ = some (.bool (decide (8 * p + 2 ∈ m.mks))) := by rw [hbx.cell, List.getElem?_toArray]; exact pageC_tag m p 2 (by decide)
      obtain ⟨b2, hb2⟩ : ∃ b, decide (8 * p + 2 ∈ m.mks) = b := ⟨_, rfl⟩
      rw [hb2] at f2
      have HB2 := Lib.hid hb2
      clear hb2
      have f3 : wr.cell? ⟨pb p, 259, none⟩ = some (.bool (decide (8 * p + 3 ∈ m.mks))) := by rw [hbx.cell, List.getElem?_toArray]; exact pageC_tag m p 3 (by decide)
      obtain ⟨b3, hb3⟩ : ∃ b, decide (8 * p + 3 ∈ m.mks) = b := ⟨_, rfl⟩
      rw [hb3] at f3
      have HB3 := Lib.hid hb3
      clear hb3
      have f4 : wr.cell? ⟨pb p, 260, none⟩ = some (.bool (decide (8 * p + 4 ∈ m.mks))) := by rw [hbx.cell, List.getElem?_toArray]; exact pageC_tag m p 4 (by decide)
      obtain ⟨b4, hb4⟩ : ∃ b, decide (8 * p + 4 ∈ m.mks) = b := ⟨_, rfl⟩
      rw [hb4] at f4
      have HB4 := Lib.hid hb4
      clear hb4
      have f5 : wr.cell? ⟨pb p, 261, none⟩ = some (.bool (decide (8 * p + 5 ∈ m.mks))) := by rw [hbx.cell, List.getElem?_toArray]; exact pageC_tag m p 5 (by decide)
      obtain ⟨b5, hb5⟩ : ∃ b, decide (8 * p + 5 ∈ m.mks) = b := ⟨_, rfl⟩
      rw [hb5] at f5
      have HB5 := Lib.hid hb5
      clear hb5
      have f6 : wr.cell? ⟨pb p, 262, none⟩ = some (.bool (decide (8 * p + 6 ∈ m.mks))) := by rw [hbx.cell, List.getElem?_toArray]; exact pageC_tag m p 6 (by decide)
      obtain ⟨b6, hb6⟩ : ∃ b, decide (8 * p + 6 ∈ m.mks) = b := ⟨_, rfl⟩
      rw [hb6] at f6
      have HB6 := Lib.hid hb6
      clear hb6
      have f7 : wr.cell? ⟨pb p, 263, none⟩ = some (.bool (decide (8 * p + 7 ∈ m.mks))) := by rw [hbx.cell, List.getElem?_toArray]; exact pageC_tag m p 7 (by decide)
      obtain ⟨b7, hb7⟩ : ∃ b, decide (8 * p + 7 ∈ m.mks) = b := ⟨_, rfl⟩
      rw [hb7] at f7
      have HB7 := Lib.hid hb7
      clear hb7
      have HSU := Lib.hid hsucc
      obtain ⟨q, hq⟩ : ∃ q, pb p = q := ⟨_, rfl⟩
      rw [hq] at HPO
      rw [hq] at f0 f1 f2 f3 f4 f5 f6 f7
      have w1 : IntKind.u64.wrap ((p : Int) * 256) = (p : Int) * 256 := by rw [IntKind.wrap_u64]; omega
      have hL8 : tagL m.mks p 0 = [] := rfl
      clear hp hsucc hin hMr hbx hq hb1
      go_wp2_with fail
      refine HPO.out.mono ?_
      rintro e W2 ⟨rfl, rfl⟩
      go_wp2_with fail
      go_loopw [3, 22] (fun v3 v22 wx => ∃ (i : Nat) (v : Value), v3 = v ∧ v22 = .int .i64 i ∧ i ≤ 8 ∧ Hid (wx.ownsRow W1.heap.size 22 1 v (tagsTo m.mks m.pgs j ++ tagL m.mks p i).length (u64s ((tagsTo m.mks m.pgs j ++ tagL m.mks p i).map (32 * ·)))) ∧ Hid (Below W1.heap.size W1 wx)) (fun _ i _ => 8 - (intOf i).toNat)
      case atStart => exact ⟨0, _, rfl, rfl, by omega, by rw [hL8, List.append_nil]; exact HO, HB⟩
      case round =>
        clear HO HB d0 f0 f1 f2 f3 f4 f5 f6 f7 HPO
        obtain ⟨i, v2, rfl, rfl, hi8, HO, HB⟩ := hrel
        have hsz := HB.out.size
        obtain ⟨va, vc, rfl, -⟩ := own_slice HO.out
        have hll : (tagsTo m.mks m.pgs j ++ tagL m.mks p i).length ≤ 8 * j + i := by
          rw [List.length_append]
          have := tagL_len m.mks p i
          omega
        have hts := tagL_succ m.mks p i
        obtain ⟨ln, hln⟩ : ∃ ln, (tagsTo m.mks m.pgs j ++ tagL m.mks p i).length = ln := ⟨_, rfl⟩
        rw [hln] at HO hll ⊢
        have HLN := Lib.hid hln
        clear hln
        by_cases hi : i < 8
        · rcases (show i = 0 ∨ i = 1 ∨ i = 2 ∨ i = 3 ∨ i = 4 ∨ i = 5 ∨ i = 6 ∨ i = 7 by omega) with rfl | rfl | rfl | rfl | rfl | rfl | rfl | rfl
          · have ix : ∀ w, (Instr.index 65 (.agg #[.bool b0, .bool b1, .bool b2, .bool b3, .bool b4, .bool b5, .bool b6, .bool b7]) (.int .i64 0)).run Tryz.prog w = .ok (.bool b0) w := fun _ => by kernel_rfl
            cases b0
            · have ht : tagL m.mks p 1 = tagL m.mks p 0 := by rw [hts, if_neg (of_decide_eq_false HB0.out), List.append_nil]
              have HT := Lib.hid ht
              clear ht hts hll
              go_wp2_with fail
              go_roundw
              case rel => exact ⟨1, _, rfl, rfl, by omega, by rw [HT.out, HLN.out]; exact HO, HB⟩
              case measure => simp [intOf]
            · have ht : tagL m.mks p 1 = tagL m.mks p 0 ++ [8 * p + 0] := by rw [hts, if_pos (of_decide_eq_true HB0.out)]
              have HT := Lib.hid ht
              clear ht hts
              have wv : IntKind.u64.wrap ((p : Int) * 256) = (p : Int) * 256 := by rw [IntKind.wrap_u64]; omega
              go_wp2_with (at_builtin; refine wpList_appE 45 22 (.int .u64 0) 1 8 Tryz.underlying45 infoU64 rfl (by decide) (by decide) _ rfl _ _ rfl W1.heap.size (.slice va ln vc) ln (u64s ((tagsTo m.mks m.pgs j ++ tagL m.mks p 0).map (32 * ·))) rfl (HO.out.alloc _) (some ⟨wr.heap.size, 0, none⟩) 1 1 [.int .u64 ((p : Int) * 256)] rfl (Rd.lit wr #[.int .u64 ((p : Int) * 256)] 22 (by show 1 ≤ maxLen; decide)) (fun u hu => by simp at hu; subst hu; rfl) (by omega) (by rw [size_alloc]; exact Nat.le_succ_of_le hsz) ?_; intro a3 c3 W3 hown3 hgrow3 hat3)
              have HO3 : Hid (W3.ownsRow W1.heap.size 22 1 (.slice a3 (ln + 1) c3) (tagsTo m.mks m.pgs j ++ tagL m.mks p 1).length (u64s ((tagsTo m.mks m.pgs j ++ tagL m.mks p 1).map (32 * ·)))) := Lib.hid (by
                rw [HT.out, ← List.append_assoc, List.length_append, HLN.out, List.map_append, show u64s (List.map (32 * ·) (tagsTo m.mks m.pgs j ++ tagL m.mks p 0) ++ List.map (32 * ·) [8 * p + 0]) = u64s (List.map (32 * ·) (tagsTo m.mks m.pgs j ++ tagL m.mks p 0)) ++ [.int .u64 ((p : Int) * 256)] by rw [List.map_cons, List.map_nil, u64s_snoc, show ((32 * (8 * p + 0) : Nat) : Int) = (p : Int) * 256 by omega]]
                exact hown3)
              have HB3 := Lib.hid (grownB (bTrans HB.out (bAlloc (Below.refl _ _) (.cells #[.int .u64 ((p : Int) * 256)] 22))) hgrow3 (fun r e => (HO.out.lt r e).1))
              clear hown3 hgrow3 hat3 HO HB
              go_wp2_with fail
              go_roundw
              case rel => exact ⟨1, _, rfl, rfl, by omega, HO3, HB3⟩
              case measure => simp [intOf]
          · have ix : ∀ w, (Instr.index 65 (.agg #[.bool b0, .bool b1, .bool b2, .bool b3, .bool b4, .bool b5, .bool b6, .bool b7]) (.int .i64 1)).run Tryz.prog w = .ok (.bool b1) w := fun _ => by kernel_rfl
            cases b1
            · have ht : tagL m.mks p 2 = tagL m.mks p 1 := by rw [hts, if_neg (of_decide_eq_false HB1.out), List.append_nil]
              have HT := Lib.hid ht
              clear ht hts hll
              go_wp2_with fail
              go_roundw
              case rel => exact ⟨2, _, rfl, rfl, by omega, by rw [HT.out, HLN.out]; exact HO, HB⟩
              case measure => simp [intOf]
            · have ht : tagL m.mks p 2 = tagL m.mks p 1 ++ [8 * p + 1] := by rw [hts, if_pos (of_decide_eq_true HB1.out)]
              have HT := Lib.hid ht
              clear ht hts
              have wv : IntKind.u64.wrap ((p : Int) * 256 + 32) = (p : Int) * 256 + 32 := by rw [IntKind.wrap_u64]; omega
              go_wp2_with (at_builtin; refine wpList_appE 45 22 (.int .u64 0) 1 8 Tryz.underlying45 infoU64 rfl (by decide) (by decide) _ rfl _ _ rfl W1.heap.size (.slice va ln vc) ln (u64s ((tagsTo m.mks m.pgs j ++ tagL m.mks p 1).map (32 * ·))) rfl (HO.out.alloc _) (some ⟨wr.heap.size, 0, none⟩) 1 1 [.int .u64 ((p : Int) * 256 + 32)] rfl (Rd.lit wr #[.int .u64 ((p : Int) * 256 + 32)] 22 (by show 1 ≤ maxLen; decide)) (fun u hu => by simp at hu; subst hu; rfl) (by omega) (by rw [size_alloc]; exact Nat.le_succ_of_le hsz) ?_; intro a3 c3 W3 hown3 hgrow3 hat3)
              have HO3 : Hid (W3.ownsRow W1.heap.size 22 1 (.slice a3 (ln + 1) c3) (tagsTo m.mks m.pgs j ++ tagL m.mks p 2).length (u64s ((tagsTo m.mks m.pgs j ++ tagL m.mks p 2).map (32 * ·)))) := Lib.hid (by
                rw [HT.out, ← List.append_assoc, List.length_append, HLN.out, List.map_append, show u64s (List.map (32 * ·) (tagsTo m.mks m.pgs j ++ tagL m.mks p 1) ++ List.map (32 * ·) [8 * p + 1]) = u64s (List.map (32 * ·) (tagsTo m.mks m.pgs j ++ tagL m.mks p 1)) ++ [.int .u64 ((p : Int) * 256 + 32)] by rw [List.map_cons, List.map_nil, u64s_snoc, show ((32 * (8 * p + 1) : Nat) : Int) = (p : Int) * 256 + 32 by omega]]
                exact hown3)
              have HB3 := Lib.hid (grownB (bTrans HB.out (bAlloc (Below.refl _ _) (.cells #[.int .u64 ((p : Int) * 256 + 32)] 22))) hgrow3 (fun r e => (HO.out.lt r e).1))
              clear hown3 hgrow3 hat3 HO HB
              go_wp2_with fail
              go_roundw
              case rel => exact ⟨2, _, rfl, rfl, by omega, HO3, HB3⟩
              case measure => simp [intOf]
          · have ix : ∀ w, (Instr.index 65 (.agg #[.bool b0, .bool b1, .bool b2, .bool b3, .bool b4, .bool b5, .bool b6, .bool b7]) (.int .i64 2)).run Tryz.prog w = .ok (.bool b2) w := fun _ => by kernel_rfl
            cases b2
            · have ht : tagL m.mks p 3 = tagL m.mks p 2 := by rw [hts, if_neg (of_decide_eq_false HB2.out), List.append_nil]
              have HT := Lib.hid ht
              clear ht hts hll
              go_wp2_with fail
              go_roundw
              case rel => exact ⟨3, _, rfl, rfl, by omega, by rw [HT.out, HLN.out]; exact HO, HB⟩
              case measure => simp [intOf]
            · have ht : tagL m.mks p 3 = tagL m.mks p 2 ++ [8 * p + 2] := by rw [hts, if_pos (of_decide_eq_true HB2.out)]
              have HT := Lib.hid ht
              clear ht hts
              have wv : IntKind.u64.wrap ((p : Int) * 256 + 64) = (p : Int) * 256 + 64 := by rw [IntKind.wrap_u64]; omega
              go_wp2_with (at_builtin; refine wpList_appE 45 22 (.int .u64 0) 1 8 Tryz.underlying45 infoU64 rfl (by decide) (by decide) _ rfl _ _ rfl W1.heap.size (.slice va ln vc) ln (u64s ((tagsTo m.mks m.pgs j ++ tagL m.mks p 2).map (32 * ·))) rfl (HO.out.alloc _) (some ⟨wr.heap.size, 0, none⟩) 1 1 [.int .u64 ((p : Int) * 256 + 64)] rfl (Rd.lit wr #[.int .u64 ((p : Int) * 256 + 64)] 22 (by show 1 ≤ maxLen; decide)) (fun u hu => by simp at hu; subst hu; rfl) (by omega) (by rw [size_alloc]; exact Nat.le_succ_of_le hsz) ?_; intro a3 c3 W3 hown3 hgrow3 hat3)
              have HO3 : Hid (W3.ownsRow W1.heap.size 22 1 (.slice a3 (ln + 1) c3) (tagsTo m.mks m.pgs j ++ tagL m.mks p 3).length (u64s ((tagsTo m.mks m.pgs j ++ tagL m.mks p 3).map (32 * ·)))) := Lib.hid (by
                rw [HT.out, ← List.append_assoc, List.length_append, HLN.out, List.map_append, show u64s (List.map (32 * ·) (tagsTo m.mks m.pgs j ++ tagL m.mks p 2) ++ List.map (32 * ·) [8 * p + 2]) = u64s (List.map (32 * ·) (tagsTo m.mks m.pgs j ++ tagL m.mks p 2)) ++ [.int .u64 ((p : Int) * 256 + 64)] by rw [List.map_cons, List.map_nil, u64s_snoc, show ((32 * (8 * p + 2) : Nat) : Int) = (p : Int) * 256 + 64 by omega]]
                exact hown3)
              have HB3 := Lib.hid (grownB (bTrans HB.out (bAlloc (Below.refl _ _) (.cells #[.int .u64 ((p : Int) * 256 + 64)] 22))) hgrow3 (fun r e => (HO.out.lt r e).1))
              clear hown3 hgrow3 hat3 HO HB
              go_wp2_with fail
              go_roundw
              case rel => exact ⟨3, _, rfl, rfl, by omega, HO3, HB3⟩
              case measure => simp [intOf]
          · have ix : ∀ w, (Instr.index 65 (.agg #[.bool b0, .bool b1, .bool b2, .bool b3, .bool b4, .bool b5, .bool b6, .bool b7]) (.int .i64 3)).run Tryz.prog w = .ok (.bool b3) w := fun _ => by kernel_rfl
            cases b3
            · have ht : tagL m.mks p 4 = tagL m.mks p 3 := by rw [hts, if_neg (of_decide_eq_false HB3.out), List.append_nil]
              have HT := Lib.hid ht
              clear ht hts hll
              go_wp2_with fail
              go_roundw
              case rel => exact ⟨4, _, rfl, rfl, by omega, by rw [HT.out, HLN.out]; exact HO, HB⟩
              case measure => simp [intOf]
            · have ht : tagL m.mks p 4 = tagL m.mks p 3 ++ [8 * p + 3] := by rw [hts, if_pos (of_decide_eq_true HB3.out)]
              have HT := Lib.hid ht
              clear ht hts
              have wv : IntKind.u64.wrap ((p : Int) * 256 + 96) = (p : Int) * 256 + 96 := by rw [IntKind.wrap_u64]; omega
              go_wp2_with (at_builtin; refine wpList_appE 45 22 (.int .u64 0) 1 8 Tryz.underlying45 infoU64 rfl (by decide) (by decide) _ rfl _ _ rfl W1.heap.size (.slice va ln vc) ln (u64s ((tagsTo m.mks m.pgs j ++ tagL m.mks p 3).map (32 * ·))) rfl (HO.out.alloc _) (some ⟨wr.heap.size, 0, none⟩) 1 1 [.int .u64 ((p : Int) * 256 + 96)] rfl (Rd.lit wr #[.int .u64 ((p : Int) * 256 + 96)] 22 (by show 1 ≤ maxLen; decide)) (fun u hu => by simp at hu; subst hu; rfl) (by omega) (by rw [size_alloc]; exact Nat.le_succ_of_le hsz) ?_; intro a3 c3 W3 hown3 hgrow3 hat3)
              have HO3 : Hid (W3.ownsRow W1.heap.size 22 1 (.slice a3 (ln + 1) c3) (tagsTo m.mks m.pgs j ++ tagL m.mks p 4).length (u64s ((tagsTo m.mks m.pgs j ++ tagL m.mks p 4).map (32 * ·)))) := Lib.hid (by
                rw [HT.out, ← List.append_assoc, List.length_append, HLN.out, List.map_append, show u64s (List.map (32 * ·) (tagsTo m.mks m.pgs j ++ tagL m.mks p 3) ++ List.map (32 * ·) [8 * p + 3]) = u64s (List.map (32 * ·) (tagsTo m.mks m.pgs j ++ tagL m.mks p 3)) ++ [.int .u64 ((p : Int) * 256 + 96)] by rw [List.map_cons, List.map_nil, u64s_snoc, show ((32 * (8 * p + 3) : Nat) : Int) = (p : Int) * 256 + 96 by omega]]
                exact hown3)
              have HB3 := Lib.hid (grownB (bTrans HB.out (bAlloc (Below.refl _ _) (.cells #[.int .u64 ((p : Int) * 256 + 96)] 22))) hgrow3 (fun r e => (HO.out.lt r e).1))
              clear hown3 hgrow3 hat3 HO HB
              go_wp2_with fail
              go_roundw
              case rel => exact ⟨4, _, rfl, rfl, by omega, HO3, HB3⟩
              case measure => simp [intOf]
          · have ix : ∀ w, (Instr.index 65 (.agg #[.bool b0, .bool b1, .bool b2, .bool b3, .bool b4, .bool b5, .bool b6, .bool b7]) (.int .i64 4)).run Tryz.prog w = .ok (.bool b4) w := fun _ => by kernel_rfl
            cases b4
            · have ht : tagL m.mks p 5 = tagL m.mks p 4 := by rw [hts, if_neg (of_decide_eq_false HB4.out), List.append_nil]
              have HT := Lib.hid ht
              clear ht hts hll
              go_wp2_with fail
              go_roundw
              case rel => exact ⟨5, _, rfl, rfl, by omega, by rw [HT.out, HLN.out]; exact HO, HB⟩
              case measure => simp [intOf]
            · have ht : tagL m.mks p 5 = tagL m.mks p 4 ++ [8 * p + 4] := by rw [hts, if_pos (of_decide_eq_true HB4.out)]
              have HT := Lib.hid ht
              clear ht hts
              have wv : IntKind.u64.wrap ((p : Int) * 256 + 128) = (p : Int) * 256 + 128 := by rw [IntKind.wrap_u64]; omega
              go_wp2_with (at_builtin; refine wpList_appE 45 22 (.int .u64 0) 1 8 Tryz.underlying45 infoU64 rfl (by decide) (by decide) _ rfl _ _ rfl W1.heap.size (.slice va ln vc) ln (u64s ((tagsTo m.mks m.pgs j ++ tagL m.mks p 4).map (32 * ·))) rfl (HO.out.alloc _) (some ⟨wr.heap.size, 0, none⟩) 1 1 [.int .u64 ((p : Int) * 256 + 128)] rfl (Rd.lit wr #[.int .u64 ((p : Int) * 256 + 128)] 22 (by show 1 ≤ maxLen; decide)) (fun u hu => by simp at hu; subst hu; rfl) (by omega) (by rw [size_alloc]; exact Nat.le_succ_of_le hsz) ?_; intro a3 c3 W3 hown3 hgrow3 hat3)
              have HO3 : Hid (W3.ownsRow W1.heap.size 22 1 (.slice a3 (ln + 1) c3) (tagsTo m.mks m.pgs j ++ tagL m.mks p 5).length (u64s ((tagsTo m.mks m.pgs j ++ tagL m.mks p 5).map (32 * ·)))) := Lib.hid (by
                rw [HT.out, ← List.append_assoc, List.length_append, HLN.out, List.map_append, show u64s (List.map (32 * ·) (tagsTo m.mks m.pgs j ++ tagL m.mks p 4) ++ List.map (32 * ·) [8 * p + 4]) = u64s (List.map (32 * ·) (tagsTo m.mks m.pgs j ++ tagL m.mks p 4)) ++ [.int .u64 ((p : Int) * 256 + 128)] by rw [List.map_cons, List.map_nil, u64s_snoc, show ((32 * (8 * p + 4) : Nat) : Int) = (p : Int) * 256 + 128 by omega]]
                exact hown3)
              have HB3 := Lib.hid (grownB (bTrans HB.out (bAlloc (Below.refl _ _) (.cells #[.int .u64 ((p : Int) * 256 + 128)] 22))) hgrow3 (fun r e => (HO.out.lt r e).1))
              clear hown3 hgrow3 hat3 HO HB
              go_wp2_with fail
              go_roundw
              case rel => exact ⟨5, _, rfl, rfl, by omega, HO3, HB3⟩
              case measure => simp [intOf]
          · have ix : ∀ w, (Instr.index 65 (.agg #[.bool b0, .bool b1, .bool b2, .bool b3, .bool b4, .bool b5, .bool b6, .bool b7]) (.int .i64 5)).run Tryz.prog w = .ok (.bool b5) w := fun _ => by kernel_rfl
            cases b5
            · have ht : tagL m.mks p 6 = tagL m.mks p 5 := by rw [hts, if_neg (of_decide_eq_false HB5.out), List.append_nil]
              have HT := Lib.hid ht
              clear ht hts hll
              go_wp2_with fail
              go_roundw
              case rel => exact ⟨6, _, rfl, rfl, by omega, by rw [HT.out, HLN.out]; exact HO, HB⟩
              case measure => simp [intOf]
            · have ht : tagL m.mks p 6 = tagL m.mks p 5 ++ [8 * p + 5] := by rw [hts, if_pos (of_decide_eq_true HB5.out)]
              have HT := Lib.hid ht
              clear ht hts
              have wv : IntKind.u64.wrap ((p : Int) * 256 + 160) = (p : Int) * 256 + 160 := by rw [IntKind.wrap_u64]; omega
              go_wp2_with (at_builtin; refine wpList_appE 45 22 (.int .u64 0) 1 8 Tryz.underlying45 infoU64 rfl (by decide) (by decide) _ rfl _ _ rfl W1.heap.size (.slice va ln vc) ln (u64s ((tagsTo m.mks m.pgs j ++ tagL m.mks p 5).map (32 * ·))) rfl (HO.out.alloc _) (some ⟨wr.heap.size, 0, none⟩) 1 1 [.int .u64 ((p : Int) * 256 + 160)] rfl (Rd.lit wr #[.int .u64 ((p : Int) * 256 + 160)] 22 (by show 1 ≤ maxLen; decide)) (fun u hu => by simp at hu; subst hu; rfl) (by omega) (by rw [size_alloc]; exact Nat.le_succ_of_le hsz) ?_; intro a3 c3 W3 hown3 hgrow3 hat3)
              have HO3 : Hid (W3.ownsRow W1.heap.size 22 1 (.slice a3 (ln + 1) c3) (tagsTo m.mks m.pgs j ++ tagL m.mks p 6).length (u64s ((tagsTo m.mks m.pgs j ++ tagL m.mks p 6).map (32 * ·)))) := Lib.hid (by
                rw [HT.out, ← List.append_assoc, List.length_append, HLN.out, List.map_append, show u64s (List.map (32 * ·) (tagsTo m.mks m.pgs j ++ tagL m.mks p 5) ++ List.map (32 * ·) [8 * p + 5]) = u64s (List.map (32 * ·) (tagsTo m.mks m.pgs j ++ tagL m.mks p 5)) ++ [.int .u64 ((p : Int) * 256 + 160)] by rw [List.map_cons, List.map_nil, u64s_snoc, show ((32 * (8 * p + 5) : Nat) : Int) = (p : Int) * 256 + 160 by omega]]
                exact hown3)
              have HB3 := Lib.hid (grownB (bTrans HB.out (bAlloc (Below.refl _ _) (.cells #[.int .u64 ((p : Int) * 256 + 160)] 22))) hgrow3 (fun r e => (HO.out.lt r e).1))
              clear hown3 hgrow3 hat3 HO HB
              go_wp2_with fail
              go_roundw
              case rel => exact ⟨6, _, rfl, rfl, by omega, HO3, HB3⟩
              case measure => simp [intOf]
          · have ix : ∀ w, (Instr.index 65 (.agg #[.bool b0, .bool b1, .bool b2, .bool b3, .bool b4, .bool b5, .bool b6, .bool b7]) (.int .i64 6)).run Tryz.prog w = .ok (.bool b6) w := fun _ => by kernel_rfl
            cases b6
            · have ht : tagL m.mks p 7 = tagL m.mks p 6 := by rw [hts, if_neg (of_decide_eq_false HB6.out), List.append_nil]
              have HT := Lib.hid ht
              clear ht hts hll
              go_wp2_with fail
              go_roundw
              case rel => exact ⟨7, _, rfl, rfl, by omega, by rw [HT.out, HLN.out]; exact HO, HB⟩
              case measure => simp [intOf]
            · have ht : tagL m.mks p 7 = tagL m.mks p 6 ++ [8 * p + 6] := by rw [hts, if_pos (of_decide_eq_true HB6.out)]
              have HT := Lib.hid ht
              clear ht hts
              have wv : IntKind.u64.wrap ((p : Int) * 256 + 192) = (p : Int) * 256 + 192 := by rw [IntKind.wrap_u64]; omega
              go_wp2_with (at_builtin; refine wpList_appE 45 22 (.int .u64 0) 1 8 Tryz.underlying45 infoU64 rfl (by decide) (by decide) _ rfl _ _ rfl W1.heap.size (.slice va ln vc) ln (u64s ((tagsTo m.mks m.pgs j ++ tagL m.mks p 6).map (32 * ·))) rfl (HO.out.alloc _) (some ⟨wr.heap.size, 0, none⟩) 1 1 [.int .u64 ((p : Int) * 256 + 192)] rfl (Rd.lit wr #[.int .u64 ((p : Int) * 256 + 192)] 22 (by show 1 ≤ maxLen; decide)) (fun u hu => by simp at hu; subst hu; rfl) (by omega) (by rw [size_alloc]; exact Nat.le_succ_of_le hsz) ?_; intro a3 c3 W3 hown3 hgrow3 hat3)
              have HO3 : Hid (W3.ownsRow W1.heap.size 22 1 (.slice a3 (ln + 1) c3) (tagsTo m.mks m.pgs j ++ tagL m.mks p 7).length (u64s ((tagsTo m.mks m.pgs j ++ tagL m.mks p 7).map (32 * ·)))) := Lib.hid (by
                rw [HT.out, ← List.append_assoc, List.length_append, HLN.out, List.map_append, show u64s (List.map (32 * ·) (tagsTo m.mks m.pgs j ++ tagL m.mks p 6) ++ List.map (32 * ·) [8 * p + 6]) = u64s (List.map (32 * ·) (tagsTo m.mks m.pgs j ++ tagL m.mks p 6)) ++ [.int .u64 ((p : Int) * 256 + 192)] by rw [List.map_cons, List.map_nil, u64s_snoc, show ((32 * (8 * p + 6) : Nat) : Int) = (p : Int) * 256 + 192 by omega]]
                exact hown3)
              have HB3 := Lib.hid (grownB (bTrans HB.out (bAlloc (Below.refl _ _) (.cells #[.int .u64 ((p : Int) * 256 + 192)] 22))) hgrow3 (fun r e => (HO.out.lt r e).1))
              clear hown3 hgrow3 hat3 HO HB
              go_wp2_with fail
              go_roundw
              case rel => exact ⟨7, _, rfl, rfl, by omega, HO3, HB3⟩
              case measure => simp [intOf]
          · have ix : ∀ w, (Instr.index 65 (.agg #[.bool b0, .bool b1, .bool b2, .bool b3, .bool b4, .bool b5, .bool b6, .bool b7]) (.int .i64 7)).run Tryz.prog w = .ok (.bool b7) w := fun _ => by kernel_rfl
            cases b7
            · have ht : tagL m.mks p 8 = tagL m.mks p 7 := by rw [hts, if_neg (of_decide_eq_false HB7.out), List.append_nil]
              have HT := Lib.hid ht
              clear ht hts hll
              go_wp2_with fail
              go_roundw
              case rel => exact ⟨8, _, rfl, rfl, by omega, by rw [HT.out, HLN.out]; exact HO, HB⟩
              case measure => simp [intOf]
            · have ht : tagL m.mks p 8 = tagL m.mks p 7 ++ [8 * p + 7] := by rw [hts, if_pos (of_decide_eq_true HB7.out)]
              have HT := Lib.hid ht
              clear ht hts
              have wv : IntKind.u64.wrap ((p : Int) * 256 + 224) = (p : Int) * 256 + 224 := by rw [IntKind.wrap_u64]; omega
              go_wp2_with (at_builtin; refine wpList_appE 45 22 (.int .u64 0) 1 8 Tryz.underlying45 infoU64 rfl (by decide) (by decide) _ rfl _ _ rfl W1.heap.size (.slice va ln vc) ln (u64s ((tagsTo m.mks m.pgs j ++ tagL m.mks p 7).map (32 * ·))) rfl (HO.out.alloc _) (some ⟨wr.heap.size, 0, none⟩) 1 1 [.int .u64 ((p : Int) * 256 + 224)] rfl (Rd.lit wr #[.int .u64 ((p : Int) * 256 + 224)] 22 (by show 1 ≤ maxLen; decide)) (fun u hu => by simp at hu; subst hu; rfl) (by omega) (by rw [size_alloc]; exact Nat.le_succ_of_le hsz) ?_; intro a3 c3 W3 hown3 hgrow3 hat3)
              have HO3 : Hid (W3.ownsRow W1.heap.size 22 1 (.slice a3 (ln + 1) c3) (tagsTo m.mks m.pgs j ++ tagL m.mks p 8).length (u64s ((tagsTo m.mks m.pgs j ++ tagL m.mks p 8).map (32 * ·)))) := Lib.hid (by
                rw [HT.out, ← List.append_assoc, List.length_append, HLN.out, List.map_append, show u64s (List.map (32 * ·) (tagsTo m.mks m.pgs j ++ tagL m.mks p 7) ++ List.map (32 * ·) [8 * p + 7]) = u64s (List.map (32 * ·) (tagsTo m.mks m.pgs j ++ tagL m.mks p 7)) ++ [.int .u64 ((p : Int) * 256 + 224)] by rw [List.map_cons, List.map_nil, u64s_snoc, show ((32 * (8 * p + 7) : Nat) : Int) = (p : Int) * 256 + 224 by omega]]
                exact hown3)
              have HB3 := Lib.hid (grownB (bTrans HB.out (bAlloc (Below.refl _ _) (.cells #[.int .u64 ((p : Int) * 256 + 224)] 22))) hgrow3 (fun r e => (HO.out.lt r e).1))
              clear hown3 hgrow3 hat3 HO HB
              go_wp2_with fail
              go_roundw
              case rel => exact ⟨8, _, rfl, rfl, by omega, HO3, HB3⟩
              case measure => simp [intOf]
        · obtain rfl : i = 8 := by omega
          clear hll hts
          go_wp2_with fail
          go_roundw
          case rel => exact ⟨j + 1, _, rfl, by go_num, by omega, by rw [HSU.out, HLN.out]; exact HO, HB⟩
          case measure => simp [intOf]; omega
    · obtain rfl : n = j := by omega
      rw [HTA.out] at HO
      obtain ⟨va, vc, rfl, -⟩ := own_slice HO.out
      go_wp2_with fail
      go_ret
      exact ⟨va, vc, rfl, own_base HO.out HB1.out.size, HB1.out.trans (HB.out.mono HB1.out.size)⟩
end Go.Proofs.YtjefkhieihigiaaGreat

namespace Go.Proofs.YtjefkhieihigiaaGreat
set_option linter.unusedVariables false
set_option linter.unusedSimpArgs false
open Go.Joins Go.ChangeShapes Go.WideShapes Go.ChangeAt Go.RowKit Go.Deep

/-- a call: what is done, where, how many, which number, which capability, which bytes -/
structure Opr where
  d : Int
  a : Nat
  n : Int
  w : Int
  c : Cp
  l : List Nat
  ba : Option Addr
  bc : Nat
def opC (o : Opr) : Array Value := #[.int .i64 o.d, .int .u64 (o.a : Int), .int .i64 o.n, .int .u64 o.w, .int .u64 o.c.b, .int .u64 o.c.t, .int .u64 o.c.a, .int .i64 o.c.p, .int .i64 o.c.y, .bool o.c.g, .slice o.ba o.l.length o.bc]
/-- it is one that can be, its bytes below N -/
structure FitO (W : World) (N : Nat) (o : Opr) : Prop where
  a : o.a < 18446744073709551616
  n0 : -9223372036854775808 ≤ o.n
  n1 : o.n < 9223372036854775808
  w0 : 0 ≤ o.w
  w1 : o.w < 18446744073709551616
  c : FitC o.c
  lb : ∀ b ∈ o.l, b < 256
  ll : o.l.length ≤ o.bc
  lm : o.l.length < 9223372036854775808
  rd : Rd W o.ba o.l.length (u8s o.l)
  bn : 0 < o.l.length → ∀ g off, o.ba = some ⟨g, off, none⟩ → g < N
theorem FitO.below {W W' : World} {N : Nat} {o : Opr} (h : FitO W N o) (hb : Below N W W') : FitO W' N o :=
  ⟨h.a, h.n0, h.n1, h.w0, h.w1, h.c, h.lb, h.ll, h.lm, ⟨h.rd.1, fun hn => by
    obtain ⟨b, off, e, hl, hc⟩ := h.rd.2 hn
    have hbl := h.bn hn b off e
    exact ⟨b, off, e, Nat.lt_of_lt_of_le hl hb.size, fun k hk => (World.cell?_of_block (hb.block b hbl)).trans (hc k hk)⟩⟩, h.bn⟩
theorem FitO.mono {W : World} {N N' : Nat} {o : Opr} (h : FitO W N o) (hN : N ≤ N') : FitO W N' o :=
  ⟨h.a, h.n0, h.n1, h.w0, h.w1, h.c, h.lb, h.ll, h.lm, h.rd, fun hn g off e => Nat.lt_of_lt_of_le (h.bn hn g off e) hN⟩
theorem MemAt.lt {W : World} {M : Nat} {F : Nat → Prop} {m : Mm} (h : MemAt W M F m) : ∀ b, F b → b < W.heap.size := by
  obtain ⟨B, D, pb, h⟩ := h
  exact h.lt
theorem kp_belowN {W W' : World} {N : Nat} {F : Nat → Prop} (hk : KP W.heap.size F W W') (hF : ∀ b, F b → N ≤ b) (hN : N ≤ W.heap.size) : Below N W W' :=
  hk.to_below hN (fun b hb hf => by have := hF b hf; omega)
end Go.Proofs.YtjefkhieihigiaaGreat

namespace Go.Proofs.YtjefkhieihigiaaGreat
set_option linter.unusedVariables false
set_option linter.unusedSimpArgs false
open Go.Joins Go.ChangeShapes Go.WideShapes Go.ChangeAt Go.RowKit Go.Deep

end Go.Proofs.YtjefkhieihigiaaGreat

namespace Go.Proofs.YtjefkhieihigiaaGreat
set_option linter.unusedVariables false
set_option linter.unusedSimpArgs false
open Go.Joins Go.ChangeShapes Go.WideShapes Go.ChangeAt Go.RowKit Go.Deep

end Go.Proofs.YtjefkhieihigiaaGreat

namespace Go.Proofs.YtjefkhieihigiaaGreat
set_option linter.unusedVariables false
set_option linter.unusedSimpArgs false
open Go.Joins Go.ChangeShapes Go.WideShapes Go.ChangeAt Go.RowKit Go.Deep

/-- a row of calls, below N -/
structure RdP (W : World) (N : Nat) (a : Option Addr) (l : List Opr) : Prop where
  fit : ∀ o ∈ l, FitO W N o
  rd : 0 < l.length → ∃ b off, a = some ⟨b, off, none⟩ ∧ b < N ∧ b < W.heap.size ∧ ∀ i (h : i < l.length) j, j < 11 → W.cell? ⟨b, off + i * 11 + j, none⟩ = (opC l[i])[j]?
theorem RdP.below {W W' : World} {N : Nat} {a : Option Addr} {l : List Opr} (h : RdP W N a l) (hb : Below N W W') : RdP W' N a l :=
  ⟨fun o ho => (h.fit o ho).below hb, fun h0 => by
    obtain ⟨b, off, e, h1, h2, h3⟩ := h.rd h0
    exact ⟨b, off, e, h1, Nat.lt_of_lt_of_le h2 hb.size, fun i hi j hj => (World.cell?_of_block (hb.block b h1)).trans (h3 i hi j hj)⟩⟩
theorem RdP.mono {W : World} {N N' : Nat} {a : Option Addr} {l : List Opr} (h : RdP W N a l) (hN : N ≤ N') : RdP W N' a l :=
  ⟨fun o ho => (h.fit o ho).mono hN, fun h0 => by
    obtain ⟨b, off, e, h1, h2, h3⟩ := h.rd h0
    exact ⟨b, off, e, Nat.lt_of_lt_of_le h1 hN, h2, h3⟩⟩
/-- one memory, in blocks from N on -/
def Solo (W : World) (N M : Nat) (m : Mm) : Prop := ∃ F, MemAt W M F m ∧ (∀ q, F q → N ≤ q) ∧ N ≤ W.heap.size
end Go.Proofs.YtjefkhieihigiaaGreat


namespace Go.Proofs.YtjefkhieihigiaaGreat
set_option linter.unusedVariables false
set_option linter.unusedSimpArgs false
open Go.Joins Go.ChangeShapes Go.WideShapes Go.ChangeAt Go.RowKit Go.Deep

/-- a memory in blocks F, all from N on -/
structure Own1 (W : World) (N : Nat) (F : Nat → Prop) (M : Nat) (m : Mm) : Prop where
  mem : MemAt W M F m
  ge : ∀ q, F q → N ≤ q
  sz : N ≤ W.heap.size
theorem Solo.own {W : World} {N M : Nat} {m : Mm} (h : Solo W N M m) : ∃ F, Own1 W N F M m := by
  obtain ⟨F, h1, h2, h3⟩ := h
  exact ⟨F, h1, h2, h3⟩
theorem Own1.ok {W : World} {N M : Nat} {F : Nat → Prop} {m : Mm} (h : Own1 W N F M m) : Okm m := by
  obtain ⟨⟨B, D, pb, h1⟩, -⟩ := h
  exact h1.ok
theorem Own1.lt {W : World} {N M : Nat} {F : Nat → Prop} {m : Mm} (h : Own1 W N F M m) : ∀ q, F q → q < W.heap.size := h.mem.lt
/-- from one world to the next: what is not F's stays; F takes new blocks alone -/
structure Moves (W W' : World) (F F' : Nat → Prop) : Prop where
  sub : ∀ b, F' b → F b ∨ W.heap.size ≤ b
  kp : KP W.heap.size F W W'
theorem Moves.of_below {W W' : World} (F : Nat → Prop) (hb : Below W.heap.size W W') : Moves W W' F F := ⟨fun b h => Or.inl h, KP.of_below F hb⟩
theorem Own1.below {W W' : World} {N M : Nat} {F : Nat → Prop} {m : Mm} (h : Own1 W N F M m) (hb : Below W.heap.size W W') : Own1 W' N F M m := ⟨h.mem.below hb, h.ge, Nat.le_trans h.sz hb.size⟩
theorem Moves.belowN {W W' : World} {N M : Nat} {F F' : Nat → Prop} {m : Mm} (h : Own1 W N F M m) (hm : Moves W W' F F') : Below N W W' := kp_belowN hm.kp h.ge h.sz
theorem own_step {W W' : World} {N M : Nat} {F F' : Nat → Prop} {m m' : Mm} (h : Own1 W N F M m) (h1 : MemAt W' M F' m') (hs : ∀ b, F' b → F b ∨ W.heap.size ≤ b) (hk : KP W.heap.size F W W') : Own1 W' N F' M m' ∧ Moves W W' F F' :=
  ⟨⟨h1, fun q hq => by
    rcases hs q hq with h2 | h2
    · exact h.ge q h2
    · have := h.sz; omega, Nat.le_trans h.sz hk.size⟩, hs, hk⟩
/-- another memory, beside it, stays -/
theorem Own1.beside {W W' : World} {N M : Nat} {F G G' : Nat → Prop} {m : Mm} (h : Own1 W N F M m) (hm : Moves W W' G G') (hd : ∀ b, F b → ¬ G b) : Own1 W' N F M m ∧ (∀ b, F b → ¬ G' b) :=
  ⟨⟨h.mem.kp hm.kp (Nat.le_refl _) hd, h.ge, Nat.le_trans h.sz hm.kp.size⟩, fun b hb hg => by
    rcases hm.sub b hg with h1 | h1
    · exact hd b hb h1
    · have := h.lt b hb; omega⟩
/-- a row that is not the memory's -/
def RdX (W : World) (F : Nat → Prop) (a : Option Addr) (n : Nat) (xs : List Value) : Prop := Rd W a n xs ∧ ∀ b off, 0 < n → a = some ⟨b, off, none⟩ → ¬ F b ∧ b < W.heap.size
theorem RdX.move {W W' : World} {F F' : Nat → Prop} {a : Option Addr} {n : Nat} {xs : List Value} (h : RdX W F a n xs) (hm : Moves W W' F F') : RdX W' F' a n xs :=
  ⟨hm.kp.rd h.1 (fun b off h0 e => ⟨(h.2 b off h0 e).2, (h.2 b off h0 e).1⟩), fun b off h0 e => by
    obtain ⟨h1, h2⟩ := h.2 b off h0 e
    refine ⟨fun hf => ?_, Nat.lt_of_lt_of_le h2 hm.kp.size⟩
    rcases hm.sub b hf with h3 | h3
    · exact h1 h3
    · omega⟩
/-- a new row -/
theorem RdX.new {W W' : World} {N M : Nat} {F : Nat → Prop} {m : Mm} {e : TypeId} {a : Option Addr} {n c : Nat} {xs : List Value} (h : Own1 W N F M m) (ho : W'.ownsRow W.heap.size e 1 (.slice a n c) n xs) : RdX W' F a n xs := by
  refine ⟨by have := own_rd ho; rwa [Nat.mul_one] at this, fun b off h0 e' => ?_⟩
  rcases ho.2 with ⟨_, h1⟩ | ⟨g, cap, cur, hv, hg, hb, r⟩
  · omega
  · cases hv
    cases e'
    exact ⟨fun hf => by have := h.lt _ hf; omega, (Array.getElem?_eq_some_iff.1 hb).1⟩
/-- a row of the caller's -/
theorem RdX.old {W : World} {N M : Nat} {F : Nat → Prop} {m : Mm} {a : Option Addr} {n : Nat} {xs : List Value} (h : Own1 W N F M m) (hr : Rd W a n xs) (hb : ∀ g off, a = some ⟨g, off, none⟩ → g < N) : RdX W F a n xs :=
  ⟨hr, fun b off h0 e => ⟨fun hf => by have := h.ge b hf; have := hb b off e; omega, Nat.lt_of_lt_of_le (hb b off e) h.sz⟩⟩
theorem snew_any (b : Int) (hb : badB b = false) (W : World) :
    Calls Tryz.prog 6 #[.int .i64 b] W fun e W' => ∃ M F, e = .returned (.tuple #[.pointer (some ⟨M, 0, none⟩), .int .i64 0]) ∧ Own1 W' W.heap.size F M (emptyM b.toNat) ∧ Below W.heap.size W W' := by
  refine (new_any b W).mono ?_
  rintro e W' (⟨h, _⟩ | ⟨_, M, rfl, h1, h2, h3⟩)
  · rw [hb] at h; cases h
  · exact ⟨M, _, rfl, ⟨h2, fun q hq => hq.1, h3.size⟩, h3⟩
theorem sbad_any (b : Int) (hb : badB b = true) (W : World) :
    Calls Tryz.prog 6 #[.int .i64 b] W fun e W' => e = .returned (.tuple #[.pointer none, .int .i64 1]) ∧ W = W' := by
  refine (new_any b W).mono ?_
  rintro e W' (⟨h, h2⟩ | ⟨h, _⟩)
  · exact h2
  · rw [hb] at h; cases h
theorem smap_any (W : World) (N M : Nat) (F : Nat → Prop) (m : Mm) (h : Own1 W N F M m) (f n : Int) (hf0 : 0 ≤ f) (hf1 : f < 18446744073709551616) (hn0 : -9223372036854775808 ≤ n) (hn1 : n < 9223372036854775808) :
    Calls Tryz.prog 8 #[.pointer (some ⟨M, 0, none⟩), .int .u64 f, .int .i64 n] W fun e W' => e = .returned (.int .i64 (mapF m f n).2) ∧ ∃ F', Own1 W' N F' M (mapF m f n).1 ∧ Moves W W' F F' := by
  refine (map_any W M F m h.mem f n hf0 hf1 hn0 hn1).mono ?_
  rintro e W' ⟨rfl, F', h4, h5, h6⟩
  exact ⟨rfl, F', own_step h h4 h5 h6⟩
theorem sloadC_any (W : World) (N M : Nat) (F : Nat → Prop) (m : Mm) (h : Own1 W N F M m) (a : Nat) (ha : a < 18446744073709551616) :
    Calls Tryz.prog 20 #[.pointer (some ⟨M, 0, none⟩), .int .u64 (a : Int)] W fun e W' => e = .returned (.tuple #[.agg (capC (loadC m a).1).toArray, .int .i64 (loadC m a).2]) ∧ Below W.heap.size W W' := by
  obtain ⟨⟨B, D, pb, h1⟩, h2, h3⟩ := h
  exact loadC_any W M B D pb F m h1 a ha
theorem sbytes_any (W : World) (N M : Nat) (F : Nat → Prop) (m : Mm) (h : Own1 W N F M m) (a : Nat) (n : Int) (ha : a < 18446744073709551616) (hn0 : -9223372036854775808 ≤ n) (hn1 : n < 9223372036854775808) :
    Calls Tryz.prog 18 #[.pointer (some ⟨M, 0, none⟩), .int .u64 (a : Int), .int .i64 n] W fun e W' => (∃ ra rc, e = .returned (.slice ra (bytesF m a n).length rc) ∧ W'.ownsRow W.heap.size 5 1 (.slice ra (bytesF m a n).length rc) (bytesF m a n).length (u8s (bytesF m a n))) ∧ Below W.heap.size W W' := by
  obtain ⟨⟨B, D, pb, h1⟩, h2, h3⟩ := h
  exact bytes_any W M B D pb F m h1 a n ha hn0 hn1
theorem spages_any (W : World) (N M : Nat) (F : Nat → Prop) (m : Mm) (h : Own1 W N F M m) :
    Calls Tryz.prog 13 #[.pointer (some ⟨M, 0, none⟩)] W fun e W' => ∃ (a : Option Addr) (c : Nat), e = .returned (.slice a m.pgs.length c) ∧ W'.ownsRow W.heap.size 22 1 (.slice a m.pgs.length c) m.pgs.length (u64s m.pgs) ∧ Below W.heap.size W W' := by
  obtain ⟨⟨B, D, pb, h1⟩, h2, h3⟩ := h
  exact pages_any W M B D pb F m h1
theorem stags_any (W : World) (N M : Nat) (F : Nat → Prop) (m : Mm) (h : Own1 W N F M m) :
    Calls Tryz.prog 14 #[.pointer (some ⟨M, 0, none⟩)] W fun e W' => ∃ (a : Option Addr) (c : Nat), e = .returned (.slice a m.mks.length c) ∧ W'.ownsRow W.heap.size 22 1 (.slice a m.mks.length c) m.mks.length (u64s (m.mks.map (32 * ·))) ∧ Below W.heap.size W W' := by
  obtain ⟨⟨B, D, pb, h1⟩, h2, h3⟩ := h
  exact tags_any W M B D pb F m h1
/-- a row of one's own, read later -/
theorem row_later {W W' : World} {B n c : Nat} {e : TypeId} {a : Option Addr} {xs : List Value} (h : W.ownsRow B e 1 (.slice a n c) n xs) (hb : Below W.heap.size W W') : Rd W' a n xs := by
  have := own_rd (own_kp2 h (KP.of_below (fun _ => False) hb) (fun _ _ => id))
  rwa [Nat.mul_one] at this
end Go.Proofs.YtjefkhieihigiaaGreat

